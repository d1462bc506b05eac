/- Cref6 Shelf Rprog2 Rprog3 Rcount. -/
import Derived.Test.YtceahffmenbibaaGreatDoorG01
import Derived.Outline
import Derived.Shelf.Small.Bits
import Derived.Shelf.Small.Wraps
import Derived.Shelf.Strconv.Atoi
import Derived.Shelf.Strconv.Itoa0
import Derived.Shelf.Strconv.Itoa1
import Derived.Shelf.LaysM
import Derived.Shelf.Strconv.Itoa2
import Derived.Shelf.Strconv.Itoa3
import Derived.Shelf.Strconv.AtoiErrFast
import Derived.Shelf.Strconv.ParseIntEmpty
import Derived.Shelf.Strconv.AtoiFail
import Derived.Shelf.Strconv.Clone
import Derived.Shelf.Strconv.SyntaxError
import Derived.Shelf.LaysC
import Derived.Shelf.Strconv.ToError
import Derived.Shelf.Strconv.Lower
import Derived.Shelf.Strconv.ParseUint10
import Derived.Shelf.Strconv.ParseUint10Empty
import Derived.Shelf.Strconv.ParseUint10Any
import Derived.Shelf.Strconv.ParseInt10
import Derived.Shelf.Strconv.AtoiLong
import Derived.Shelf.Strconv.AtoiInnerAll
import Derived.Shelf.Strconv.RangeError
import Derived.Shelf.Strconv.ToErrorRange
import Derived.Shelf.Strconv.AtoiAll
import Derived.Shelf.Strconv.ErrVarAll
import Derived.Shelf.Strings.Search1
import Derived.Shelf.Strings.Search2
import Derived.Shelf.Strings.Cut
import Derived.Shelf.Strings.Shaped
import Derived.Shelf.Strings.Prefix
import Derived.Shelf.Strings.FieldsFuncAny
import Derived.Shelf.Strings.FieldsFuncGrows
import Derived.Shelf.Slices.Turned
import Derived.Test.YtceahffmenbibaaGreatDoorProg
import Derived.Test.YtceahffmenbibaaGreatDoorG00
set_option linter.unusedVariables false
set_option linter.unusedSimpArgs false
namespace Go.Proofs.YtceahffmenbibaaGreatDoor
namespace Rd
open Go Go.RowKit Go.Deep
theorem rem_none:∀ {L:List Cl} {c:Cl},(∀ d ∈ L,sameB d c=false)→rem L c=none
 | [],c,_=>rfl
 | d :: r,c,h=>by
  unfold rem
  rw [if_neg (by rw [h d (List.mem_cons_self ..)];decide),rem_none (fun x hx=>h x (List.mem_cons_of_mem _ hx))];rfl
theorem rem_some:∀ {L:List Cl} {c:Cl} (i:Nat),i < L.length→(∀ d ∈ L.take i,sameB d c=false)→sameB (L.getD i []) c=true→rem L c=some (L.take i ++ L.drop (i + 1))
 | [],c,i,hi,_,_=>by simp at hi
 | d :: r,c,0,hi,_,h=>by
  unfold rem
  rw [if_pos (by simpa using h)];simp
 | d :: r,c,i + 1,hi,hn,h=>by
  unfold rem
  rw [if_neg (by rw [hn d (by simp)];decide),rem_some i (by simpa using hi) (fun x hx=>hn x (by simp [hx])) (by simpa using h)];simp
end Rd
end Go.Proofs.YtceahffmenbibaaGreatDoor
namespace Go.Proofs
open Go.Shelf
def Tryz.lays103_ren:Go.Shelf.Ren:=⟨fun | 103=>71 | 210=>112 | 206=>148 | n=>n,fun | 9=>9 | 4=>4 | 24=>121 | 3=>3 | n=>n,fun | n=>n⟩
theorem Tryz.lays103:Go.Proofs.Lays.n103 Tryz.prog Tryz.lays103_ren:={
 mixed:=by kernel_rfl
 f103:=Tryz.func71.trans (congrArg some (by kernel_rfl))
 f206:=Tryz.func148.trans (congrArg some (by kernel_rfl))
 f210:=Tryz.func112.trans (congrArg some (by kernel_rfl))
 t3:=Tryz.underlying3
 a3:=Tryz.isAgg3
 z3:=Tryz.sizeOf3
 v3:=Tryz.zeroValue3
 t4:=Tryz.underlying4
 a4:=Tryz.isAgg4
 z4:=Tryz.sizeOf4
 v4:=Tryz.zeroValue4
 t9:=Tryz.underlying9
 a9:=Tryz.isAgg9
 z9:=Tryz.sizeOf9
 v9:=Tryz.zeroValue9
 t24:=Tryz.underlying121
 a24:=Tryz.isAgg121
 z24:=Tryz.sizeOf121
 v24:=Tryz.zeroValue121 }
open Go.RowKit in
theorem Tryz.strings_CutPrefix (s p:ByteArray) (w:World):
  Calls Tryz.prog 71 #[.string s,.string p] w fun e w'=>e=.returned (.tuple #[.string ⟨(Lib.trimPrefix s.data.toList p.data.toList).toArray⟩,.bool (Lib.hasPrefix s.data.toList p.data.toList)])∧w'=w:=Any.strings_CutPrefix Tryz.lays103 s p w
def Tryz.lays172_ren:Go.Shelf.Ren:=⟨fun | 172=>66 | 244=>107 | 245=>108 | 247=>153 | 279=>154 | 280=>155 | 281=>156 | 282=>157 | 287=>196 | 316=>197 | 171=>36 | 205=>198 | 321=>229 | 322=>230 | 243=>65 | 246=>106 | 283=>149 | 284=>150 | 285=>151 | 286=>152 | 129=>170 | 317=>192 | 318=>193 | 319=>194 | 320=>195 | 337=>227 | 338=>228 | n=>n,fun | 9=>9 | 3=>3 | 75=>65 | 76=>117 | 4=>4 | 5=>5 | 167=>209 | 37=>107 | 0=>0 | 85=>210 | 2=>2 | 168=>212 | 53=>82 | 175=>234 | 46=>187 | 210=>238 | 127=>171 | 145=>256 | 143=>254 | 21=>21 | 171=>204 | 173=>207 | 212=>232 | 51=>218 | 20=>20 | 213=>233 | 232=>267 | 233=>268 | 80=>120 | n=>n,fun | 15=>2 | 16=>3 | 17=>1 | 18=>4 | 19=>5 | n=>n⟩
theorem Tryz.lays172:Go.Proofs.Lays.n172 Tryz.prog Tryz.lays172_ren:={
 mixed:=by kernel_rfl
 f129:=Tryz.func170.trans (congrArg some (by kernel_rfl))
 f171:=Tryz.func36.trans (congrArg some (by kernel_rfl))
 f172:=Tryz.func66.trans (congrArg some (by kernel_rfl))
 f205:=Tryz.func198.trans (congrArg some (by kernel_rfl))
 f243:=Tryz.func65.trans (congrArg some (by kernel_rfl))
 f244:=Tryz.func107.trans (congrArg some (by kernel_rfl))
 f245:=Tryz.func108.trans (congrArg some (by kernel_rfl))
 f246:=Tryz.func106.trans (congrArg some (by kernel_rfl))
 f247:=Tryz.func153.trans (congrArg some (by kernel_rfl))
 f279:=Tryz.func154.trans (congrArg some (by kernel_rfl))
 f280:=Tryz.func155.trans (congrArg some (by kernel_rfl))
 f281:=Tryz.func156.trans (congrArg some (by kernel_rfl))
 f282:=Tryz.func157.trans (congrArg some (by kernel_rfl))
 f283:=Tryz.func149.trans (congrArg some (by kernel_rfl))
 f284:=Tryz.func150.trans (congrArg some (by kernel_rfl))
 f285:=Tryz.func151.trans (congrArg some (by kernel_rfl))
 f286:=Tryz.func152.trans (congrArg some (by kernel_rfl))
 f287:=Tryz.func196.trans (congrArg some (by kernel_rfl))
 f316:=Tryz.func197.trans (congrArg some (by kernel_rfl))
 f317:=Tryz.func192.trans (congrArg some (by kernel_rfl))
 f318:=Tryz.func193.trans (congrArg some (by kernel_rfl))
 f319:=Tryz.func194.trans (congrArg some (by kernel_rfl))
 f320:=Tryz.func195.trans (congrArg some (by kernel_rfl))
 f321:=Tryz.func229.trans (congrArg some (by kernel_rfl))
 f322:=Tryz.func230.trans (congrArg some (by kernel_rfl))
 f337:=Tryz.func227.trans (congrArg some (by kernel_rfl))
 f338:=Tryz.func228.trans (congrArg some (by kernel_rfl))
 t0:=Tryz.underlying0
 a0:=Tryz.isAgg0
 z0:=Tryz.sizeOf0
 v0:=Tryz.zeroValue0
 t2:=Tryz.underlying2
 a2:=Tryz.isAgg2
 z2:=Tryz.sizeOf2
 v2:=Tryz.zeroValue2
 t3:=Tryz.underlying3
 a3:=Tryz.isAgg3
 z3:=Tryz.sizeOf3
 v3:=Tryz.zeroValue3
 t4:=Tryz.underlying4
 a4:=Tryz.isAgg4
 z4:=Tryz.sizeOf4
 v4:=Tryz.zeroValue4
 t5:=Tryz.underlying5
 a5:=Tryz.isAgg5
 z5:=Tryz.sizeOf5
 v5:=Tryz.zeroValue5
 t9:=Tryz.underlying9
 a9:=Tryz.isAgg9
 z9:=Tryz.sizeOf9
 v9:=Tryz.zeroValue9
 t20:=Tryz.underlying20
 a20:=Tryz.isAgg20
 z20:=Tryz.sizeOf20
 v20:=Tryz.zeroValue20
 t21:=Tryz.underlying21
 a21:=Tryz.isAgg21
 z21:=Tryz.sizeOf21
 v21:=Tryz.zeroValue21
 t37:=Tryz.underlying107
 a37:=Tryz.isAgg107
 z37:=Tryz.sizeOf107
 v37:=Tryz.zeroValue107
 t46:=Tryz.underlying187
 a46:=Tryz.isAgg187
 z46:=Tryz.sizeOf187
 v46:=Tryz.zeroValue187
 t51:=Tryz.underlying218
 a51:=Tryz.isAgg218
 z51:=Tryz.sizeOf218
 v51:=Tryz.zeroValue218
 t53:=Tryz.underlying82
 a53:=Tryz.isAgg82
 z53:=Tryz.sizeOf82
 v53:=Tryz.zeroValue82
 t75:=Tryz.underlying65
 a75:=Tryz.isAgg65
 z75:=Tryz.sizeOf65
 v75:=Tryz.zeroValue65
 t76:=Tryz.underlying117
 a76:=Tryz.isAgg117
 z76:=Tryz.sizeOf117
 v76:=Tryz.zeroValue117
 t85:=Tryz.underlying210
 a85:=Tryz.isAgg210
 z85:=Tryz.sizeOf210
 v85:=Tryz.zeroValue210
 t127:=Tryz.underlying171
 a127:=Tryz.isAgg171
 z127:=Tryz.sizeOf171
 v127:=Tryz.zeroValue171
 t143:=Tryz.underlying254
 a143:=Tryz.isAgg254
 z143:=Tryz.sizeOf254
 v143:=Tryz.zeroValue254
 t145:=Tryz.underlying256
 a145:=Tryz.isAgg256
 z145:=Tryz.sizeOf256
 v145:=Tryz.zeroValue256
 t167:=Tryz.underlying209
 a167:=Tryz.isAgg209
 z167:=Tryz.sizeOf209
 v167:=Tryz.zeroValue209
 t168:=Tryz.underlying212
 a168:=Tryz.isAgg212
 z168:=Tryz.sizeOf212
 v168:=Tryz.zeroValue212
 t171:=Tryz.underlying204
 a171:=Tryz.isAgg204
 z171:=Tryz.sizeOf204
 v171:=Tryz.zeroValue204
 t173:=Tryz.underlying207
 a173:=Tryz.isAgg207
 z173:=Tryz.sizeOf207
 v173:=Tryz.zeroValue207
 t175:=Tryz.underlying234
 a175:=Tryz.isAgg234
 z175:=Tryz.sizeOf234
 v175:=Tryz.zeroValue234
 t210:=Tryz.underlying238
 a210:=Tryz.isAgg238
 z210:=Tryz.sizeOf238
 v210:=Tryz.zeroValue238
 t212:=Tryz.underlying232
 a212:=Tryz.isAgg232
 z212:=Tryz.sizeOf232
 v212:=Tryz.zeroValue232
 t213:=Tryz.underlying233
 a213:=Tryz.isAgg233
 z213:=Tryz.sizeOf233
 t232:=Tryz.underlying267
 a232:=Tryz.isAgg267
 z232:=Tryz.sizeOf267
 v232:=Tryz.zeroValue267
 t233:=Tryz.underlying268
 a233:=Tryz.isAgg268
 z233:=Tryz.sizeOf268
 v233:=Tryz.zeroValue268
 g15:=by kernel_rfl
 g16:=by kernel_rfl
 g17:=by kernel_rfl
 g18:=by kernel_rfl
 g19:=by kernel_rfl }
open Go.RowKit in
theorem Tryz.strconv_Atoi (s:ByteArray) (n:Int) (hl:s.size ≤ 18) (h:Lib.atoi s.data.toList=some n) (w:World):
  Calls Tryz.prog 66 #[.string s] w fun e w'=>e=.returned (.tuple #[.int .i64 n,.nilIface])∧∃ t,w'=Lib.bytesWorld w 5 t:=Any.strconv_Atoi Tryz.lays172 s n hl h w
def Tryz.laysM171_ren:Go.Shelf.Ren:=⟨fun | 171=>36 | 243=>65 | 246=>106 | 283=>149 | 284=>150 | 285=>151 | 286=>152 | 129=>170 | 317=>192 | 318=>193 | 319=>194 | 320=>195 | 337=>227 | 338=>228 | n=>n,fun | 3=>3 | 9=>9 | 2=>2 | 4=>4 | 171=>204 | 0=>0 | 53=>82 | 37=>107 | 5=>5 | 173=>207 | 212=>232 | 51=>218 | 20=>20 | 213=>233 | 46=>187 | 232=>267 | 233=>268 | n=>n,fun | 17=>1 | 18=>4 | 19=>5 | n=>n⟩
theorem Tryz.laysM171:Go.Proofs.LaysM.n171 Tryz.prog Tryz.laysM171_ren:={
 mixed:=by kernel_rfl
 f129:=Tryz.func170.trans (congrArg some (by kernel_rfl))
 f171:=Tryz.func36.trans (congrArg some (by kernel_rfl))
 f243:=Tryz.func65.trans (congrArg some (by kernel_rfl))
 f246:=Tryz.func106.trans (congrArg some (by kernel_rfl))
 f283:=Tryz.func149.trans (congrArg some (by kernel_rfl))
 f284:=Tryz.func150.trans (congrArg some (by kernel_rfl))
 f285:=Tryz.func151.trans (congrArg some (by kernel_rfl))
 f286:=Tryz.func152.trans (congrArg some (by kernel_rfl))
 f317:=Tryz.func192.trans (congrArg some (by kernel_rfl))
 f318:=Tryz.func193.trans (congrArg some (by kernel_rfl))
 f319:=Tryz.func194.trans (congrArg some (by kernel_rfl))
 f320:=Tryz.func195.trans (congrArg some (by kernel_rfl))
 f337:=Tryz.func227.trans (congrArg some (by kernel_rfl))
 f338:=Tryz.func228.trans (congrArg some (by kernel_rfl))
 t0:=Tryz.underlying0
 a0:=Tryz.isAgg0
 z0:=Tryz.sizeOf0
 v0:=Tryz.zeroValue0
 t2:=Tryz.underlying2
 a2:=Tryz.isAgg2
 z2:=Tryz.sizeOf2
 v2:=Tryz.zeroValue2
 t3:=Tryz.underlying3
 a3:=Tryz.isAgg3
 z3:=Tryz.sizeOf3
 v3:=Tryz.zeroValue3
 t4:=Tryz.underlying4
 a4:=Tryz.isAgg4
 z4:=Tryz.sizeOf4
 v4:=Tryz.zeroValue4
 t5:=Tryz.underlying5
 a5:=Tryz.isAgg5
 z5:=Tryz.sizeOf5
 v5:=Tryz.zeroValue5
 t9:=Tryz.underlying9
 a9:=Tryz.isAgg9
 z9:=Tryz.sizeOf9
 v9:=Tryz.zeroValue9
 t20:=Tryz.underlying20
 a20:=Tryz.isAgg20
 z20:=Tryz.sizeOf20
 v20:=Tryz.zeroValue20
 t37:=Tryz.underlying107
 a37:=Tryz.isAgg107
 z37:=Tryz.sizeOf107
 v37:=Tryz.zeroValue107
 t46:=Tryz.underlying187
 a46:=Tryz.isAgg187
 z46:=Tryz.sizeOf187
 v46:=Tryz.zeroValue187
 t51:=Tryz.underlying218
 a51:=Tryz.isAgg218
 z51:=Tryz.sizeOf218
 v51:=Tryz.zeroValue218
 t53:=Tryz.underlying82
 a53:=Tryz.isAgg82
 z53:=Tryz.sizeOf82
 v53:=Tryz.zeroValue82
 t171:=Tryz.underlying204
 a171:=Tryz.isAgg204
 z171:=Tryz.sizeOf204
 v171:=Tryz.zeroValue204
 t173:=Tryz.underlying207
 a173:=Tryz.isAgg207
 z173:=Tryz.sizeOf207
 v173:=Tryz.zeroValue207
 t212:=Tryz.underlying232
 a212:=Tryz.isAgg232
 z212:=Tryz.sizeOf232
 v212:=Tryz.zeroValue232
 t213:=Tryz.underlying233
 a213:=Tryz.isAgg233
 z213:=Tryz.sizeOf233
 t232:=Tryz.underlying267
 a232:=Tryz.isAgg267
 z232:=Tryz.sizeOf267
 v232:=Tryz.zeroValue267
 t233:=Tryz.underlying268
 a233:=Tryz.isAgg268
 z233:=Tryz.sizeOf268
 v233:=Tryz.zeroValue268
 g17:=by kernel_rfl
 g18:=by kernel_rfl
 g19:=by kernel_rfl
 i0:=by kernel_rfl
 i2:=by kernel_rfl
 i3:=by kernel_rfl
 i4:=by kernel_rfl
 i5:=by kernel_rfl
 i9:=by kernel_rfl
 i20:=by kernel_rfl
 i37:=by kernel_rfl
 i46:=by kernel_rfl
 i51:=by kernel_rfl
 i53:=by kernel_rfl
 i171:=by kernel_rfl
 i173:=by kernel_rfl
 i212:=by kernel_rfl
 i232:=by kernel_rfl
 i233:=by kernel_rfl
 m17:=by kernel_rfl
 m18:=by kernel_rfl
 m19:=by kernel_rfl }
def Tryz.lays171_ren:Go.Shelf.Ren:=⟨fun | 171=>36 | 243=>65 | 246=>106 | 283=>149 | 284=>150 | 285=>151 | 286=>152 | 129=>170 | 317=>192 | 318=>193 | 319=>194 | 320=>195 | 337=>227 | 338=>228 | n=>n,fun | 3=>3 | 9=>9 | 2=>2 | 4=>4 | 171=>204 | 0=>0 | 53=>82 | 37=>107 | 5=>5 | 173=>207 | 212=>232 | 51=>218 | 20=>20 | 213=>233 | 46=>187 | 232=>267 | 233=>268 | n=>n,fun | 17=>1 | 18=>4 | 19=>5 | n=>n⟩
theorem Tryz.lays171:Go.Proofs.Lays.n171 Tryz.prog Tryz.lays171_ren:={
 mixed:=by kernel_rfl
 f129:=Tryz.func170.trans (congrArg some (by kernel_rfl))
 f171:=Tryz.func36.trans (congrArg some (by kernel_rfl))
 f243:=Tryz.func65.trans (congrArg some (by kernel_rfl))
 f246:=Tryz.func106.trans (congrArg some (by kernel_rfl))
 f283:=Tryz.func149.trans (congrArg some (by kernel_rfl))
 f284:=Tryz.func150.trans (congrArg some (by kernel_rfl))
 f285:=Tryz.func151.trans (congrArg some (by kernel_rfl))
 f286:=Tryz.func152.trans (congrArg some (by kernel_rfl))
 f317:=Tryz.func192.trans (congrArg some (by kernel_rfl))
 f318:=Tryz.func193.trans (congrArg some (by kernel_rfl))
 f319:=Tryz.func194.trans (congrArg some (by kernel_rfl))
 f320:=Tryz.func195.trans (congrArg some (by kernel_rfl))
 f337:=Tryz.func227.trans (congrArg some (by kernel_rfl))
 f338:=Tryz.func228.trans (congrArg some (by kernel_rfl))
 t0:=Tryz.underlying0
 a0:=Tryz.isAgg0
 z0:=Tryz.sizeOf0
 v0:=Tryz.zeroValue0
 t2:=Tryz.underlying2
 a2:=Tryz.isAgg2
 z2:=Tryz.sizeOf2
 v2:=Tryz.zeroValue2
 t3:=Tryz.underlying3
 a3:=Tryz.isAgg3
 z3:=Tryz.sizeOf3
 v3:=Tryz.zeroValue3
 t4:=Tryz.underlying4
 a4:=Tryz.isAgg4
 z4:=Tryz.sizeOf4
 v4:=Tryz.zeroValue4
 t5:=Tryz.underlying5
 a5:=Tryz.isAgg5
 z5:=Tryz.sizeOf5
 v5:=Tryz.zeroValue5
 t9:=Tryz.underlying9
 a9:=Tryz.isAgg9
 z9:=Tryz.sizeOf9
 v9:=Tryz.zeroValue9
 t20:=Tryz.underlying20
 a20:=Tryz.isAgg20
 z20:=Tryz.sizeOf20
 v20:=Tryz.zeroValue20
 t37:=Tryz.underlying107
 a37:=Tryz.isAgg107
 z37:=Tryz.sizeOf107
 v37:=Tryz.zeroValue107
 t46:=Tryz.underlying187
 a46:=Tryz.isAgg187
 z46:=Tryz.sizeOf187
 v46:=Tryz.zeroValue187
 t51:=Tryz.underlying218
 a51:=Tryz.isAgg218
 z51:=Tryz.sizeOf218
 v51:=Tryz.zeroValue218
 t53:=Tryz.underlying82
 a53:=Tryz.isAgg82
 z53:=Tryz.sizeOf82
 v53:=Tryz.zeroValue82
 t171:=Tryz.underlying204
 a171:=Tryz.isAgg204
 z171:=Tryz.sizeOf204
 v171:=Tryz.zeroValue204
 t173:=Tryz.underlying207
 a173:=Tryz.isAgg207
 z173:=Tryz.sizeOf207
 v173:=Tryz.zeroValue207
 t212:=Tryz.underlying232
 a212:=Tryz.isAgg232
 z212:=Tryz.sizeOf232
 v212:=Tryz.zeroValue232
 t213:=Tryz.underlying233
 a213:=Tryz.isAgg233
 z213:=Tryz.sizeOf233
 t232:=Tryz.underlying267
 a232:=Tryz.isAgg267
 z232:=Tryz.sizeOf267
 v232:=Tryz.zeroValue267
 t233:=Tryz.underlying268
 a233:=Tryz.isAgg268
 z233:=Tryz.sizeOf268
 v233:=Tryz.zeroValue268
 g17:=by kernel_rfl
 g18:=by kernel_rfl
 g19:=by kernel_rfl }
open Go.RowKit Go.Sort Go.Lib in
theorem Tryz.strconv_Itoa_small (i:Nat) (hi:i < 100) (w:World):
  Calls Tryz.prog 36 #[.int .i64 i] w fun e w'=>e=.returned (.string ⟨(Lib.decDigits i).toArray⟩)∧w'=w:=Any.strconv_Itoa_small Tryz.lays171 i hi w
def Tryz.lays145_ren:Go.Shelf.Ren:=⟨fun | 145=>40 | 220=>70 | 219=>111 | 217=>161 | 225=>162 | 224=>163 | 267=>164 | 266=>200 | 314=>201 | n=>n,fun | 9=>9 | 4=>4 | 59=>80 | 3=>3 | 5=>5 | 46=>187 | 146=>240 | 51=>218 | n=>n,fun | 1=>0 | n=>n⟩
theorem Tryz.lays145:Go.Proofs.Lays.n145 Tryz.prog Tryz.lays145_ren:={
 mixed:=by kernel_rfl
 f145:=Tryz.func40.trans (congrArg some (by kernel_rfl))
 f217:=Tryz.func161.trans (congrArg some (by kernel_rfl))
 f219:=Tryz.func111.trans (congrArg some (by kernel_rfl))
 f220:=Tryz.func70.trans (congrArg some (by kernel_rfl))
 f224:=Tryz.func163.trans (congrArg some (by kernel_rfl))
 f225:=Tryz.func162.trans (congrArg some (by kernel_rfl))
 f266:=Tryz.func200.trans (congrArg some (by kernel_rfl))
 f267:=Tryz.func164.trans (congrArg some (by kernel_rfl))
 f314:=Tryz.func201.trans (congrArg some (by kernel_rfl))
 t3:=Tryz.underlying3
 a3:=Tryz.isAgg3
 z3:=Tryz.sizeOf3
 v3:=Tryz.zeroValue3
 t4:=Tryz.underlying4
 a4:=Tryz.isAgg4
 z4:=Tryz.sizeOf4
 v4:=Tryz.zeroValue4
 t5:=Tryz.underlying5
 a5:=Tryz.isAgg5
 z5:=Tryz.sizeOf5
 v5:=Tryz.zeroValue5
 t9:=Tryz.underlying9
 a9:=Tryz.isAgg9
 z9:=Tryz.sizeOf9
 v9:=Tryz.zeroValue9
 t46:=Tryz.underlying187
 a46:=Tryz.isAgg187
 z46:=Tryz.sizeOf187
 v46:=Tryz.zeroValue187
 t51:=Tryz.underlying218
 a51:=Tryz.isAgg218
 z51:=Tryz.sizeOf218
 v51:=Tryz.zeroValue218
 t59:=Tryz.underlying80
 a59:=Tryz.isAgg80
 z59:=Tryz.sizeOf80
 v59:=Tryz.zeroValue80
 t146:=Tryz.underlying240
 a146:=Tryz.isAgg240
 z146:=Tryz.sizeOf240
 v146:=Tryz.zeroValue240
 g1:=by kernel_rfl }
open Go.RowKit Go.Lib in
theorem Tryz.strings_Cut (s sep:ByteArray) (m:Int) (w:World) (hs:s.size < 4294967281) (hm:w.cell? ⟨0,0,none⟩=some (.int .i64 m)):
  Calls Tryz.prog 40 #[.string s,.string sep] w fun e w'=>e=.returned (.tuple #[.string ⟨(Lib.cut s.data.toList sep.data.toList).1.toArray⟩,.string ⟨(Lib.cut s.data.toList sep.data.toList).2.1.toArray⟩,.bool (Lib.cut s.data.toList sep.data.toList).2.2])∧∃ n,w'=w.drewN n:=Any.strings_Cut Tryz.lays145 s sep m w hs hm
def Tryz.laysM219_ren:Go.Shelf.Ren:=⟨fun | 219=>111 | 217=>161 | 225=>162 | 224=>163 | 267=>164 | 266=>200 | 314=>201 | n=>n,fun | 9=>9 | 3=>3 | 4=>4 | 5=>5 | 46=>187 | 146=>240 | 51=>218 | n=>n,fun | 1=>0 | n=>n⟩
theorem Tryz.laysM219:Go.Proofs.LaysM.n219 Tryz.prog Tryz.laysM219_ren:={
 mixed:=by kernel_rfl
 f217:=Tryz.func161.trans (congrArg some (by kernel_rfl))
 f219:=Tryz.func111.trans (congrArg some (by kernel_rfl))
 f224:=Tryz.func163.trans (congrArg some (by kernel_rfl))
 f225:=Tryz.func162.trans (congrArg some (by kernel_rfl))
 f266:=Tryz.func200.trans (congrArg some (by kernel_rfl))
 f267:=Tryz.func164.trans (congrArg some (by kernel_rfl))
 f314:=Tryz.func201.trans (congrArg some (by kernel_rfl))
 t3:=Tryz.underlying3
 a3:=Tryz.isAgg3
 z3:=Tryz.sizeOf3
 v3:=Tryz.zeroValue3
 t4:=Tryz.underlying4
 a4:=Tryz.isAgg4
 z4:=Tryz.sizeOf4
 v4:=Tryz.zeroValue4
 t5:=Tryz.underlying5
 a5:=Tryz.isAgg5
 z5:=Tryz.sizeOf5
 v5:=Tryz.zeroValue5
 t9:=Tryz.underlying9
 a9:=Tryz.isAgg9
 z9:=Tryz.sizeOf9
 v9:=Tryz.zeroValue9
 t46:=Tryz.underlying187
 a46:=Tryz.isAgg187
 z46:=Tryz.sizeOf187
 v46:=Tryz.zeroValue187
 t51:=Tryz.underlying218
 a51:=Tryz.isAgg218
 z51:=Tryz.sizeOf218
 v51:=Tryz.zeroValue218
 t146:=Tryz.underlying240
 a146:=Tryz.isAgg240
 z146:=Tryz.sizeOf240
 v146:=Tryz.zeroValue240
 g1:=by kernel_rfl
 i3:=by kernel_rfl
 i4:=by kernel_rfl
 i5:=by kernel_rfl
 i9:=by kernel_rfl
 i46:=by kernel_rfl
 i51:=by kernel_rfl
 i146:=by kernel_rfl
 m1:=by kernel_rfl
 s1_3:=fun w h=>Go.Proofs.cell_of_shapedOpen_int (zero:=#[.int .i64 0]) (t:=3) h (of_decide_eq_true (by kernel_rfl)) (by kernel_rfl) rfl (by kernel_rfl) (by kernel_rfl) Tryz.underlying3 }
def Tryz.lays99_ren:Go.Shelf.Ren:=⟨fun | 99=>104 | 206=>148 | n=>n,fun | 9=>9 | 4=>4 | 3=>3 | n=>n,fun | n=>n⟩
theorem Tryz.lays99:Go.Proofs.Lays.n99 Tryz.prog Tryz.lays99_ren:={
 mixed:=by kernel_rfl
 f99:=Tryz.func104.trans (congrArg some (by kernel_rfl))
 f206:=Tryz.func148.trans (congrArg some (by kernel_rfl))
 t3:=Tryz.underlying3
 a3:=Tryz.isAgg3
 z3:=Tryz.sizeOf3
 v3:=Tryz.zeroValue3
 t4:=Tryz.underlying4
 a4:=Tryz.isAgg4
 z4:=Tryz.sizeOf4
 v4:=Tryz.zeroValue4
 t9:=Tryz.underlying9
 a9:=Tryz.isAgg9
 z9:=Tryz.sizeOf9
 v9:=Tryz.zeroValue9 }
open Go.RowKit Go.Lib in
theorem Tryz.strings_HasPrefix (s p:ByteArray) (w:World):
  Calls Tryz.prog 104 #[.string s,.string p] w fun e w'=>e=.returned (.bool (Lib.hasPrefix s.data.toList p.data.toList))∧w'=w:=Any.strings_HasPrefix Tryz.lays99 s p w
def Tryz.lays101_ren:Go.Shelf.Ren:=⟨fun | 101=>113 | 208=>165 | 206=>148 | n=>n,fun | 9=>9 | 4=>4 | 3=>3 | n=>n,fun | n=>n⟩
theorem Tryz.lays101:Go.Proofs.Lays.n101 Tryz.prog Tryz.lays101_ren:={
 mixed:=by kernel_rfl
 f101:=Tryz.func113.trans (congrArg some (by kernel_rfl))
 f206:=Tryz.func148.trans (congrArg some (by kernel_rfl))
 f208:=Tryz.func165.trans (congrArg some (by kernel_rfl))
 t3:=Tryz.underlying3
 a3:=Tryz.isAgg3
 z3:=Tryz.sizeOf3
 v3:=Tryz.zeroValue3
 t4:=Tryz.underlying4
 a4:=Tryz.isAgg4
 z4:=Tryz.sizeOf4
 v4:=Tryz.zeroValue4
 t9:=Tryz.underlying9
 a9:=Tryz.isAgg9
 z9:=Tryz.sizeOf9
 v9:=Tryz.zeroValue9 }
open Go.RowKit Go.Lib in
theorem Tryz.strings_TrimPrefix (s p:ByteArray) (w:World):
  Calls Tryz.prog 113 #[.string s,.string p] w fun e w'=>e=.returned (.string ⟨(Lib.trimPrefix s.data.toList p.data.toList).toArray⟩)∧w'=w:=Any.strings_TrimPrefix Tryz.lays101 s p w
def Tryz.lays229_ren:Go.Shelf.Ren:=⟨fun | 229=>63 | n=>n,fun | 9=>9 | 40=>127 | 31=>70 | 152=>172 | 3=>3 | 0=>0 | 4=>4 | 21=>21 | 154=>174 | n=>n,fun | n=>n⟩
theorem Tryz.lays229:Go.Proofs.Lays.n229 Tryz.prog Tryz.lays229_ren:={
 mixed:=by kernel_rfl
 f229:=Tryz.func63.trans (congrArg some (by kernel_rfl))
 t0:=Tryz.underlying0
 a0:=Tryz.isAgg0
 z0:=Tryz.sizeOf0
 v0:=Tryz.zeroValue0
 t3:=Tryz.underlying3
 a3:=Tryz.isAgg3
 z3:=Tryz.sizeOf3
 v3:=Tryz.zeroValue3
 t4:=Tryz.underlying4
 a4:=Tryz.isAgg4
 z4:=Tryz.sizeOf4
 v4:=Tryz.zeroValue4
 t9:=Tryz.underlying9
 a9:=Tryz.isAgg9
 z9:=Tryz.sizeOf9
 v9:=Tryz.zeroValue9
 t21:=Tryz.underlying21
 a21:=Tryz.isAgg21
 z21:=Tryz.sizeOf21
 v21:=Tryz.zeroValue21
 t31:=Tryz.underlying70
 a31:=Tryz.isAgg70
 z31:=Tryz.sizeOf70
 v31:=Tryz.zeroValue70
 t40:=Tryz.underlying127
 a40:=Tryz.isAgg127
 z40:=Tryz.sizeOf127
 v40:=Tryz.zeroValue127
 t152:=Tryz.underlying172
 a152:=Tryz.isAgg172
 z152:=Tryz.sizeOf172
 v152:=Tryz.zeroValue172
 t154:=Tryz.underlying174
 a154:=Tryz.isAgg174
 z154:=Tryz.sizeOf174
 v154:=Tryz.zeroValue174 }
open Go.RowKit Go.Lib in
theorem Tryz.strings_FieldsFunc (g:Nat) (lb:Array Value) (eg:∀ args w,(callFunc g args).run Tryz.prog w=.ok (.enter g args) w) (p:Nat→Bool) (s:ByteArray) (w:World) (hs:s.size ≤ 4294967296) (hp:PredAt Tryz.prog g lb encR p w):
  Calls Tryz.prog 63 #[.string s,.func (.func g) #[] lb] w fun e w'=>∃ A,e=.returned (.slice (some ⟨A,0,none⟩) (Lib.goFieldsP p s).length (Lib.goFieldsP p s).length)∧w.heap.size ≤ A∧
   w'.ownsRow w.heap.size 9 1 (.slice (some ⟨A,0,none⟩) (Lib.goFieldsP p s).length (Lib.goFieldsP p s).length) (Lib.goFieldsP p s).length ((Lib.goFieldsP p s).map Value.string)∧Below w.heap.size w w':=Any.strings_FieldsFunc Tryz.lays229 g lb eg p s w hs hp (by kernel_rfl) (by kernel_rfl)
def Tryz.lays109_ren:Go.Shelf.Ren:=⟨fun | 109=>67 | n=>n,fun | 31=>70 | 9=>9 | 3=>3 | 0=>0 | 4=>4 | n=>n,fun | n=>n⟩
theorem Tryz.lays109:Go.Proofs.Lays.n109 Tryz.prog Tryz.lays109_ren:={
 mixed:=by kernel_rfl
 f109:=Tryz.func67.trans (congrArg some (by kernel_rfl))
 t0:=Tryz.underlying0
 a0:=Tryz.isAgg0
 z0:=Tryz.sizeOf0
 v0:=Tryz.zeroValue0
 t3:=Tryz.underlying3
 a3:=Tryz.isAgg3
 z3:=Tryz.sizeOf3
 v3:=Tryz.zeroValue3
 t4:=Tryz.underlying4
 a4:=Tryz.isAgg4
 z4:=Tryz.sizeOf4
 v4:=Tryz.zeroValue4
 t9:=Tryz.underlying9
 a9:=Tryz.isAgg9
 z9:=Tryz.sizeOf9
 v9:=Tryz.zeroValue9
 t31:=Tryz.underlying70
 a31:=Tryz.isAgg70
 z31:=Tryz.sizeOf70
 v31:=Tryz.zeroValue70 }
open Go.Lib in
theorem Tryz.slices_Index_string (b off n c:Nat) (zs:List ByteArray) (x:ByteArray) (w:World) (hz:n ≤ zs.length) (hbig:n ≤ 9223372036854775807) (hc:∀ j,j < zs.length→w.cell? ⟨b,off + j,none⟩=some (.string (zs.getD j ByteArray.empty))):
  Calls Tryz.prog 67 #[.slice (some ⟨b,off,none⟩) n c,.string x] w fun e w'=>e=.returned (.int .i64 (Lib.idxOfS (zs.take n) x))∧w'=w:=Any.slices_Index_string Tryz.lays109 b off n c zs x w hz hbig hc
end Go.Proofs
namespace Go.Proofs.YtceahffmenbibaaGreatDoor
namespace Rd
open Go Go.RowKit Go.Proofs
theorem strip_eq (t:Bs):Lib.trimPrefix t [45]=strip t:=by
 unfold Lib.trimPrefix Lib.hasPrefix strip
 cases t with
 | nil=>simp
 | cons c r=>
  by_cases h:c=45
  ·subst h;simp [List.isPrefixOf]
  ·have h':¬ (45:UInt8)=c:=fun e=>h e.symm
   simp [List.isPrefixOf,h,h']
theorem strip_len (t:Bs):(strip t).length ≤ t.length:=by
 unfold strip;split <;> simp
theorem trimMinus (t:ByteArray) (w:World):
  Calls Tryz.prog 113 #[.string t,.string ⟨#[45]⟩] w fun e w'=>∃ x:ByteArray,e=.returned (.string x)∧Hid (x.data.toList=strip t.data.toList)∧w'=w:=by
 refine (Tryz.strings_TrimPrefix t _ _).mono ?_
 rintro e w' ⟨rfl,rfl⟩
 exact ⟨_,rfl,strip_eq _,rfl⟩
theorem len_of {x:ByteArray} {l:Bs} (h:x.data.toList=l):x.size=l.length:=by rw [← h];simp
set_option maxHeartbeats 400000 in
theorem isLiteral_any (t v:ByteArray) (w:World) (ht:t.size ≤ maxLen) (hv:v.size ≤ maxLen):
  Calls Tryz.prog 72 #[.string t,.string v] w fun e w'=>e=.returned (.bool (litB v.data.toList t.data.toList))∧w'=w:=by
 go_enter Tryz.func72,Tryz.ntmps72
 go_wp2_with fail
 refine (trimMinus t _).mono ?_
 rintro e w' ⟨x,rfl,hx,rfl⟩
 have hz:x.size ≤ maxLen:=by rw [len_of (unhide hx)];have:=strip_len t.data.toList;simp at this;omega
 have E0:Hid (litB v.data.toList t.data.toList=(numB x.data.toList && !(x.data.toList == [48]) && !above x.data.toList v.data.toList)):=by
  unfold Hid litB;rw [unhide hx]
 clear hx
 by_cases c1:numB x.data.toList=true
 ·by_cases c2:(!x.toList == [48])=true
  ·have E:Hid (litB v.data.toList t.data.toList=!above x.data.toList v.data.toList):=by
    unfold Hid;rw [unhide E0,c1];rw [ByteArray.toList_eq] at c2;rw [c2];simp
   clear E0
   have HC:=hide c1;clear c1
   go_wp2_with fail
   refine (isNumber_any x _ hz).mono ?_
   rintro e w1 ⟨rfl,rfl⟩
   rw [unhide HC]
   go_wp2_with fail
   refine (isAbove_any x v _ hz hv).mono ?_
   rintro e w2 ⟨rfl,rfl⟩
   go_wp2
   go_ret
   exact ⟨ret_bool (by rw [unhide E]),rfl⟩
  ·have c2':(!x.toList == [48])=false:=by simpa using c2
   clear c2
   have E:Hid (litB v.data.toList t.data.toList=false):=by
    unfold Hid;rw [unhide E0,c1];rw [ByteArray.toList_eq] at c2';rw [c2'];simp
   clear E0
   have HC:=hide c1;clear c1
   go_wp2_with fail
   refine (isNumber_any x _ hz).mono ?_
   rintro e w1 ⟨rfl,rfl⟩
   rw [unhide HC]
   go_wp2
   go_ret
   exact ⟨ret_bool (by rw [unhide E]),rfl⟩
 ·have c1':numB x.data.toList=false:=by simpa using c1
  clear c1
  have E:Hid (litB v.data.toList t.data.toList=false):=by
   unfold Hid;rw [unhide E0,c1'];simp
  clear E0
  have HC:=hide c1';clear c1'
  go_wp2_with fail
  refine (isNumber_any x _ hz).mono ?_
  rintro e w1 ⟨rfl,rfl⟩
  rw [unhide HC]
  go_wp2
  go_ret
  exact ⟨ret_bool (by rw [unhide E]),rfl⟩
def gapR (r:Nat):Bool:=r == 32 || r == 9 || r == 10
set_option maxHeartbeats 400000 in
theorem isGap_any (r:Nat) (w:World):
  Calls Tryz.prog 64 #[.int .i32 r] w fun e w'=>e=.returned (.bool (gapR r))∧w'=w:=by
 have e1:((r:Int) == 32)=(r == 32):=by rw [Bool.eq_iff_iff];simp;omega
 have e2:((r:Int) == 9)=(r == 9):=by rw [Bool.eq_iff_iff];simp;omega
 have e3:((r:Int) == 10)=(r == 10):=by rw [Bool.eq_iff_iff];simp;omega
 cases c1:(r == 32) <;> cases c2:(r == 9) <;> cases c3:(r == 10)
 all_goals
  rw [c1] at e1
  rw [c2] at e2
  rw [c3] at e3
  have E:Hid (gapR r=((r == 32) || (r == 9) || (r == 10))):=rfl
  rw [c1,c2,c3] at E
  clear c1 c2 c3
  go_enter Tryz.func64,Tryz.ntmps64
  go_wp2
  go_ret
  exact ⟨ret_bool (by rw [unhide E];rfl),rfl⟩
theorem index_ten:∀ (l:Bs),Lib.index l [10]=if ended l then ((line l).length:Int) else -1
 | []=>by simp [Lib.index,ended,line]
 | c :: r=>by
  have ih:=index_ten r
  by_cases h:c=10
  ·subst h;simp [Lib.index,ended,line,List.isPrefixOf]
  ·have h':¬ (10:UInt8)=c:=fun e=>h e.symm
   unfold Lib.index
   rw [show List.isPrefixOf [10] (c :: r)=false from by simp [List.isPrefixOf,h'],ih]
   have e1:line (c :: r)=c :: line r:=by simp [line,h]
   have e2:ended (c :: r)=ended r:=by simp [ended,e1]
   rw [e2,e1]
   cases ended r <;> simp
theorem cut_ten (l:Bs):Lib.cut l [10]=if ended l then (line l,rest l,true) else (l,[],false):=by
 unfold Lib.cut
 rw [index_ten]
 cases h:ended l with
 | true=>
  have ht:l.take (line l).length=line l:=by
   unfold line
   have:=List.takeWhile_prefix (l:=l) (p:=fun c=>!(c == 10))
   exact (List.prefix_iff_eq_take.1 this).symm
  simp [ht,rest]
 | false=>simp
theorem cut_nl (s:ByteArray) (m:Int) (w:World) (hs:s.size ≤ 20000) (hm:w.cell? ⟨0,0,none⟩=some (.int .i64 m)):
  Calls Tryz.prog 40 #[.string s,.string ⟨#[10]⟩] w fun e w'=>∃ x y:ByteArray,e=.returned (.tuple #[.string x,.string y,.bool (ended s.data.toList)])∧
   Hid (x.data.toList=if ended s.data.toList then line s.data.toList else s.data.toList)∧Hid (y.data.toList=if ended s.data.toList then rest s.data.toList else [])∧∃ n,w'=w.drewN n:=by
 refine (Tryz.strings_Cut s _ m _ (by omega) hm).mono ?_
 rintro e w' ⟨rfl,hn⟩
 rw [show Lib.cut s.data.toList (⟨#[10]⟩:ByteArray).data.toList=_ from cut_ten _]
 cases ended s.data.toList
 ·exact ⟨_,_,rfl,rfl,rfl,hn⟩
 ·exact ⟨_,_,rfl,rfl,rfl,hn⟩
theorem line_len (l:Bs):(line l).length ≤ l.length:=by unfold line;exact (List.takeWhile_prefix _).length_le
theorem rest_len {l:Bs} (h:ended l=true):(rest l).length < l.length:=by
 simp [ended] at h
 simp [rest];omega
theorem hasPrefix_c (l:Bs):Lib.hasPrefix l [99]=(l.head? == some 99):=by
 unfold Lib.hasPrefix
 cases l with
 | nil=>rfl
 | cons c r=>
  by_cases h:c=99
  ·subst h;simp [List.isPrefixOf]
  ·have h1:((99:UInt8) == c)=false:=by simpa using fun e=>h e.symm
   have h2:(c == (99:UInt8))=false:=by simpa using h
   simp [List.isPrefixOf,h1,h2]
def skipF:Nat→Bs→Option Bs
 | 0,_=>none
 | f + 1,l=>if Lib.hasPrefix l [99] then (if ended l && comment (line l) then skipF f (rest l) else none) else some l
def sizeOfStr:Value→Nat
 | .string x=>x.size
 | _=>0
set_option maxHeartbeats 1000000 in
theorem skipComments_any (s:ByteArray) (m:Int) (w:World) (hs:s.size ≤ 20000) (hm:w.cell? ⟨0,0,none⟩=some (.int .i64 m)):
  Calls Tryz.prog 60 #[.string s] w fun e w'=>(∃ n,w'=w.drewN n)∧∃ x:ByteArray,
   ((skipF (s.size + 1) s.data.toList=none∧e=.returned (.tuple #[.string x,.bool false])) ∨
    (skipF (s.size + 1) s.data.toList=some x.data.toList∧x.size ≤ 20000∧e=.returned (.tuple #[.string x,.bool true]))):=by
 go_enter Tryz.func60,Tryz.ntmps60
 go_wp2
 go_loopw [0,4,5,6] (fun t _ _ _ wr=>∃ (x:ByteArray) (f n:Nat),t=.string x∧x.size < f∧x.size ≤ 20000∧wr=w.drewN n∧Hid (skipF f x.data.toList=skipF (s.size + 1) s.data.toList)) (fun t _ _ _ _=>sizeOfStr t)
 case atStart=>exact ⟨s,s.size + 1,0,rfl,by omega,hs,rfl,rfl⟩
 case round=>
  obtain ⟨x,f,n,rfl,hf,hx,rfl,HF⟩:=hrel
  obtain ⟨g,rfl⟩:∃ g,f=g + 1:=⟨f - 1,by omega⟩
  have hmn:(w.drewN n).cell? ⟨0,0,none⟩=some (.int .i64 m):=hm
  go_wp2_with fail
  refine (Tryz.strings_HasPrefix x _ _).mono ?_
  rintro e w' ⟨rfl,rfl⟩
  cases c0:Lib.hasPrefix x.data.toList (⟨#[99]⟩:ByteArray).data.toList with
  | false=>
   have E:Hid (skipF (g + 1) x.data.toList=some x.data.toList):=by unfold Hid skipF;rw [show Lib.hasPrefix x.data.toList [99]=false from c0];rfl
   clear c0
   go_wp2
   go_ret2
   exact ⟨⟨n,rfl⟩,x,.inr ⟨(unhide HF).symm.trans (unhide E),hx,rfl⟩⟩
  | true=>
   have C0:=hide c0
   clear c0
   go_wp2_with fail
   refine (cut_nl x m _ hx hmn).mono ?_
   rintro e w1 ⟨y,z,rfl,hy,hz,n1,rfl⟩
   cases c1:ended x.data.toList with
   | false=>
    have E:Hid (skipF (g + 1) x.data.toList=none):=by unfold Hid skipF;rw [show Lib.hasPrefix x.data.toList [99]=true from unhide C0,c1];rfl
    clear c1 hy hz
    go_wp2
    go_ret2
    exact ⟨⟨_,rfl⟩,_,.inl ⟨(unhide HF).symm.trans (unhide E),rfl⟩⟩
   | true=>
    have hy':Hid (y.data.toList=line x.data.toList):=by unfold Hid;rw [unhide hy,c1];rfl
    have hz':Hid (z.data.toList=rest x.data.toList):=by unfold Hid;rw [unhide hz,c1];rfl
    have hzs:z.size < x.size:=by rw [len_of (unhide hz')];have:=rest_len c1;simp at this;exact this
    have E0:Hid (skipF (g + 1) x.data.toList=if comment y.data.toList then skipF g z.data.toList else none):=by
     unfold Hid;rw [unhide hy',unhide hz',skipF];rw [show Lib.hasPrefix x.data.toList [99]=true from unhide C0,c1];simp
    clear hy hz c1 hy' hz'
    by_cases c2:(!y.toList == [99])=true
    ·cases c3:Lib.hasPrefix y.data.toList (⟨#[99,32]⟩:ByteArray).data.toList with
     | false=>
      have E:Hid (skipF (g + 1) x.data.toList=none):=by
       unfold Hid;rw [unhide E0];unfold comment
       rw [show Lib.hasPrefix y.data.toList [99,32]=false from c3,← ByteArray.toList_eq]
       simp at c2;simp [c2]
      have C3:=hide c3
      clear c3
      go_wp2_with fail
      refine (Tryz.strings_HasPrefix y _ _).mono ?_
      rintro e w2 ⟨rfl,rfl⟩
      rw [unhide C3]
      go_wp2
      go_ret2
      exact ⟨⟨_,rfl⟩,_,.inl ⟨(unhide HF).symm.trans (unhide E),rfl⟩⟩
     | true=>
      have E:Hid (skipF (g + 1) x.data.toList=skipF g z.data.toList):=by
       unfold Hid;rw [unhide E0];unfold comment
       rw [show Lib.hasPrefix y.data.toList [99,32]=true from c3];simp
      have C3:=hide c3
      clear c3
      go_wp2_with fail
      refine (Tryz.strings_HasPrefix y _ _).mono ?_
      rintro e w2 ⟨rfl,rfl⟩
      rw [unhide C3]
      go_wp2
      go_roundw
      case rel=>exact ⟨z,g,n + n1,rfl,by omega,by omega,rfl,(unhide E).symm.trans (unhide HF)⟩
      case measure=>simpa [sizeOfStr] using hzs
    ·have c2':(!y.toList == [99])=false:=by simpa using c2
     clear c2
     have E:Hid (skipF (g + 1) x.data.toList=skipF g z.data.toList):=by
      unfold Hid;rw [unhide E0];unfold comment
      rw [← ByteArray.toList_eq]
      simp at c2';simp [c2']
     go_wp2
     go_roundw
     case rel=>exact ⟨z,g,n + n1,rfl,by omega,by omega,rfl,(unhide E).symm.trans (unhide HF)⟩
     case measure=>simpa [sizeOfStr] using hzs
end Rd
end Go.Proofs.YtceahffmenbibaaGreatDoor
namespace Go.Proofs.YtceahffmenbibaaGreatDoor
namespace Rd
open Go Go.RowKit Go.Proofs
abbrev pcnf:Bs:=[112,32,99,110,102,32]
def cutP (l:Bs):Option (Bs × Bs × Bs):=
 if ended l && Lib.hasPrefix (line l) pcnf && (Lib.cut (Lib.trimPrefix (line l) pcnf) [32]).2.2 && numB (Lib.cut (Lib.trimPrefix (line l) pcnf) [32]).1 && numB (Lib.cut (Lib.trimPrefix (line l) pcnf) [32]).2.1
 then some ((Lib.cut (Lib.trimPrefix (line l) pcnf) [32]).1,(Lib.cut (Lib.trimPrefix (line l) pcnf) [32]).2.1,rest l) else none
theorem cut_len1 (l sep:Bs):(Lib.cut l sep).1.length ≤ l.length:=by unfold Lib.cut;split <;> simp;omega
theorem cut_len2 (l sep:Bs):(Lib.cut l sep).2.1.length ≤ l.length:=by unfold Lib.cut;split <;> simp
theorem trim_len (l p:Bs):(Lib.trimPrefix l p).length ≤ l.length:=by unfold Lib.trimPrefix;split <;> simp
theorem cutP_isSome {l y t a b:Bs} (hy:y=if ended l then line l else l) (ht:t=Lib.trimPrefix y pcnf) (ha:a=(Lib.cut t [32]).1) (hb:b=(Lib.cut t [32]).2.1):
  (cutP l).isSome=(ended l && Lib.hasPrefix y pcnf && (Lib.cut t [32]).2.2 && numB a && numB b):=by
 unfold cutP
 cases e1:ended l with
 | false=>rfl
 | true=>
  rw [e1,if_pos rfl] at hy
  subst hy ht ha hb
  cases (true && Lib.hasPrefix (line l) pcnf && (Lib.cut (Lib.trimPrefix (line l) pcnf) [32]).2.2 && numB (Lib.cut (Lib.trimPrefix (line l) pcnf) [32]).1 && numB (Lib.cut (Lib.trimPrefix (line l) pcnf) [32]).2.1) <;> rfl
theorem cutP_parts {l y z t a b:Bs} (hy:y=if ended l then line l else l) (hz:z=if ended l then rest l else []) (ht:t=Lib.trimPrefix y pcnf) (ha:a=(Lib.cut t [32]).1) (hb:b=(Lib.cut t [32]).2.1):
  ∀ o,cutP l=some o→o=(a,b,z):=by
 intro o ho
 unfold cutP at ho
 cases e1:ended l with
 | false=>rw [e1] at ho;simp at ho
 | true=>
  rw [e1,if_pos rfl] at hy hz
  subst hy hz ht ha hb
  split at ho
  ·exact (Option.some.inj ho).symm
  ·cases ho
set_option maxHeartbeats 1000000 in
theorem cutProblem_any (s:ByteArray) (m:Int) (w:World) (hs:s.size ≤ 20000) (hm:w.cell? ⟨0,0,none⟩=some (.int .i64 m)):
  Calls Tryz.prog 61 #[.string s] w fun e w'=>(∃ n,w'=w.drewN n)∧∃ a b z:ByteArray,e=.returned (.tuple #[.string a,.string b,.string z,.bool (cutP s.data.toList).isSome])∧
   (∀ o,cutP s.data.toList=some o→o=(a.data.toList,b.data.toList,z.data.toList))∧a.size ≤ 20000∧b.size ≤ 20000∧z.size ≤ 20000:=by
 go_enter Tryz.func61,Tryz.ntmps61
 go_wp2_with fail
 refine (cut_nl s m _ hs hm).mono ?_
 rintro e w1 ⟨y,z,rfl,hy,hz,n1,rfl⟩
 have hys:y.size ≤ 20000:=by
  rw [len_of (unhide hy)];split
  ·have:=line_len s.data.toList;simp at this;omega
  ·simpa using hs
 have hzs:z.size ≤ 20000:=by
  rw [len_of (unhide hz)];split
  ·simp [rest];omega
  ·simp
 go_wp2_with fail
 refine (Tryz.strings_CutPrefix y _ _).mono ?_
 rintro e w2 ⟨rfl,rfl⟩
 obtain ⟨t,ht⟩:∃ t:ByteArray,t=⟨(Lib.trimPrefix y.data.toList (⟨#[112,32,99,110,102,32]⟩:ByteArray).data.toList).toArray⟩:=⟨_,rfl⟩
 rw [← ht]
 have HT:Hid (t.data.toList=Lib.trimPrefix y.data.toList pcnf):=by unfold Hid;rw [ht]
 clear ht
 have hts:t.size ≤ 20000:=by rw [len_of (unhide HT)];have:=trim_len y.data.toList pcnf;simp at this;omega
 cases c2:Lib.hasPrefix y.data.toList (⟨#[112,32,99,110,102,32]⟩:ByteArray).data.toList
 all_goals
  have C2:=hide c2
  clear c2
  go_wp2_with fail
  refine (Tryz.strings_Cut t _ m _ (by omega) (by exact hm)).mono ?_
  rintro e w3 ⟨rfl,n3,rfl⟩
  obtain ⟨a,ha⟩:∃ a:ByteArray,a=⟨(Lib.cut t.data.toList (⟨#[32]⟩:ByteArray).data.toList).1.toArray⟩:=⟨_,rfl⟩
  obtain ⟨b,hb⟩:∃ b:ByteArray,b=⟨(Lib.cut t.data.toList (⟨#[32]⟩:ByteArray).data.toList).2.1.toArray⟩:=⟨_,rfl⟩
  rw [← ha,← hb]
  have HA:Hid (a.data.toList=(Lib.cut t.data.toList [32]).1):=by unfold Hid;rw [ha]
  have HB:Hid (b.data.toList=(Lib.cut t.data.toList [32]).2.1):=by unfold Hid;rw [hb]
  clear ha hb
  have has:a.size ≤ 20000:=by rw [len_of (unhide HA)];have:=cut_len1 t.data.toList [32];simp at this;omega
  have hbs:b.size ≤ 20000:=by rw [len_of (unhide HB)];have:=cut_len2 t.data.toList [32];simp at this;omega
  cases c3:(Lib.cut t.data.toList (⟨#[32]⟩:ByteArray).data.toList).2.2
  all_goals
   have C3:=hide c3
   clear c3
   cases c1:ended s.data.toList
   all_goals
    have C1:=hide c1
    clear c1
    cases c4:numB a.data.toList
    all_goals
     have C4:=hide c4
     clear c4
     cases c5:numB b.data.toList
     all_goals
      have C5:=hide c5
      clear c5
      go_wp2_with (first | (go_at_call_of 105 (Value.string a);refine (isNumber_any a _ (by unfold maxLen;omega)).mono ?_;rintro e w4 ⟨rfl,rfl⟩;rw [unhide C4]) | (go_at_call_of 105 (Value.string b);refine (isNumber_any b _ (by unfold maxLen;omega)).mono ?_;rintro e w5 ⟨rfl,rfl⟩;rw [unhide C5]))
      have EQ:=cutP_isSome (unhide hy) (unhide HT) (unhide HA) (unhide HB)
      rw [unhide C1,show Lib.hasPrefix y.data.toList pcnf=_ from unhide C2,show (Lib.cut t.data.toList [32]).2.2=_ from unhide C3,unhide C4,unhide C5] at EQ
      refine bodyPost_ret (v:=.tuple #[.string a,.string b,.string z,.bool (cutP s.data.toList).isSome]) (by rw [EQ];simp [results,Tryz.results61,go_sem]) rfl ⟨⟨_,rfl⟩,a,b,z,rfl,cutP_parts (unhide hy) (unhide hz) (unhide HT) (unhide HA) (unhide HB),has,hbs,hzs⟩
end Rd
end Go.Proofs.YtceahffmenbibaaGreatDoor
namespace Go.Proofs.YtceahffmenbibaaGreatDoor
namespace Rd
open Go Go.RowKit Go.Proofs
def bss (T:List ByteArray):List Bs:=T.map fun x=>x.data.toList
theorem bss_snoc {T:List ByteArray} {k:Nat} (h:k < T.length):bss (T.take (k + 1))=bss (T.take k) ++ [T[k].data.toList]:=by
 rw [List.take_succ_eq_append_getElem h];unfold bss;rw [List.map_append];rfl
theorem zeros_snoc (T:List Bs) (t:Bs):zeros (T ++ [t])=zeros T + if zero t then 1 else 0:=by
 unfold zeros;rw [List.filter_append];cases h:zero t <;> simp [h]
theorem lits_snoc (T:List Bs) (t:Bs):lits (T ++ [t])=lits T + if zero t then 0 else 1:=by
 unfold lits;rw [List.filter_append];cases h:zero t <;> simp [h]
theorem okAll_snoc (v:Bs) (T:List Bs) (t:Bs):okAll v (T ++ [t])=(okAll v T && (zero t || litB v t)):=by
 unfold okAll;rw [List.all_append];simp
theorem zeros_le (T:List Bs):zeros T ≤ T.length:=by unfold zeros;exact List.length_filter_le _ _
theorem lits_le (T:List Bs):lits T ≤ T.length:=by unfold lits;exact List.length_filter_le _ _
theorem not_okAll {v:Bs} {T:List ByteArray} {k:Nat} (hk:k < T.length) (h:(zero T[k].data.toList || litB v T[k].data.toList)=false):okAll v (bss T)=false:=by
 rw [Bool.eq_false_iff];intro ha
 have:=List.all_eq_true.1 ha T[k].data.toList (by simp only [bss,List.mem_map];exact ⟨T[k],List.getElem_mem hk,rfl⟩)
 rw [h] at this;cases this
def closedB (T:List Bs):Bool:=T.isEmpty || T.getLast? == some [48]
abbrev prs (v:ByteArray) (c l:Nat) (a:Option Addr) (n:Nat):Array Value:=#[.string v,.int .i64 c,.int .i64 l,.slice a n n]
set_option maxHeartbeats 1000000 in
theorem countTokens_any (T:List ByteArray) (v:ByteArray) (A:Nat) (w:World) (hn:T.length ≤ 20000) (hT:∀ x ∈ T,x.size ≤ 20000) (hv:v.size ≤ 20000) (hA:A < w.heap.size)
  (hc:∀ j (h:j < T.length),w.cell? ⟨A,j,none⟩=some (.string T[j])):
  Calls Tryz.prog 62 #[.slice (some ⟨A,0,none⟩) T.length T.length,.string v] w fun e w'=>Below w.heap.size w w'∧
   ((okAll v.data.toList (bss T)=true∧e=.returned (.tuple #[.agg (prs v (zeros (bss T)) (lits (bss T)) (some ⟨A,0,none⟩) T.length),.bool (closedB (bss T))])) ∨
    (okAll v.data.toList (bss T)=false∧e=.returned (.tuple #[.agg (prs ⟨#[]⟩ 0 0 none 0),.bool false]))):=by
 have HC:=hide hc;clear hc
 have HTs:=hide hT;clear hT
 go_enter Tryz.func62,Tryz.ntmps62
 go_wp2
 go_loopw [15] (fun i wr=>∃ k:Nat,k ≤ T.length∧i=.int .i64 k∧Hid (okAll v.data.toList (bss (T.take k))=true)∧
   wr=(w.alloc (.cells (prs ⟨#[]⟩ 0 0 none 0) 72)).alloc (.cells (prs v (zeros (bss (T.take k))) (lits (bss (T.take k))) (some ⟨A,0,none⟩) T.length) 72)) (fun i _=>T.length - (intOf i).toNat)
 case atStart=>exact ⟨0,Nat.zero_le _,rfl,rfl,rfl⟩
 case round=>
  obtain ⟨k,hk,rfl,hok,rfl⟩:=hrel
  have z1:=zeros_le (bss (T.take k))
  have z2:=lits_le (bss (T.take k))
  have z3:(bss (T.take k)).length ≤ k:=by simp [bss];omega
  by_cases hlt:k < T.length
  ·have ck:=unhide HC k hlt
   have hsz:=unhide HTs T[k] (List.getElem_mem hlt)
   have S:=hide (bss_snoc hlt)
   obtain ⟨t,ht⟩:∃ t,t=T[k]:=⟨_,rfl⟩
   rw [← ht] at ck hsz S
   have NK:Hid ((zero t.data.toList || litB v.data.toList t.data.toList)=false→okAll v.data.toList (bss T)=false):=fun h=>not_okAll hlt (by rw [← ht];exact h)
   clear ht
   cases c1:(t.toList == [48]) with
   | true=>
    have Z:Hid (zero t.data.toList=true):=by unfold Hid zero;rw [← ByteArray.toList_eq];exact c1
    go_wp2
    go_roundw
    case rel=>
     refine ⟨k + 1,by omega,by go_num,?_,?_⟩
     ·unfold Hid;rw [unhide S,okAll_snoc,unhide hok,unhide Z];rfl
     ·rw [unhide S,zeros_snoc,lits_snoc,unhide Z];rfl
    case measure=>simp [intOf];omega
   | false=>
    have Z:Hid (zero t.data.toList=false):=by unfold Hid zero;rw [← ByteArray.toList_eq];exact c1
    cases c2:litB v.data.toList t.data.toList with
    | true=>
     have C2:=hide c2;clear c2
     go_wp2_with fail
     refine (isLiteral_any t v _ (by unfold maxLen;omega) (by unfold maxLen;omega)).mono ?_
     rintro e w1 ⟨rfl,rfl⟩
     rw [unhide C2]
     go_wp2
     go_roundw
     case rel=>
      refine ⟨k + 1,by omega,by go_num,?_,?_⟩
      ·unfold Hid;rw [unhide S,okAll_snoc,unhide hok,unhide Z,unhide C2];rfl
      ·rw [unhide S,zeros_snoc,lits_snoc,unhide Z];rfl
     case measure=>simp [intOf];omega
    | false=>
     have C2:=hide c2;clear c2
     go_wp2_with fail
     refine (isLiteral_any t v _ (by unfold maxLen;omega) (by unfold maxLen;omega)).mono ?_
     rintro e w1 ⟨rfl,rfl⟩
     rw [unhide C2]
     go_wp2
     have hno:=unhide NK (by rw [unhide Z,unhide C2];rfl)
     exact bodyPost_ret (v:=.tuple #[.agg (prs ⟨#[]⟩ 0 0 none 0),.bool false]) (by simp [results,Tryz.results62,go_sem]) rfl ⟨((Below.refl _ _).alloc (Nat.le_refl _) _).alloc (by simp) _,.inr ⟨hno,rfl⟩⟩
  ·have e:k=T.length:=by omega
   subst e
   have hall:=unhide hok
   rw [List.take_of_length_le (Nat.le_refl _)] at hall ⊢
   have HALL:=hide hall;clear hall hok
   by_cases h0:T.length=0
   ·have hb:((T.length:Int) == 0)=true:=by simp [h0]
    have E:Hid (closedB (bss T)=true):=by unfold Hid closedB bss;rw [List.eq_nil_of_length_eq_zero h0];rfl
    clear h0
    go_wp2
    exact bodyPost_ret (v:=.tuple #[.agg (prs v (zeros (bss T)) (lits (bss T)) (some ⟨A,0,none⟩) T.length),.bool (closedB (bss T))]) (by rw [unhide E];simp [results,Tryz.results62,go_sem]) rfl
     ⟨((Below.refl _ _).alloc (Nat.le_refl _) _).alloc (by simp) _,.inl ⟨unhide HALL,rfl⟩⟩
   ·have hb:((T.length:Int) == 0)=false:=by rw [beq_eq_false_iff_ne];omega
    have ck:=unhide HC (T.length - 1) (by omega)
    have he:((T.length:Int) - 1).toNat=T.length - 1:=by omega
    have E:Hid (closedB (bss T)=(T[T.length - 1].toList == [48])):=by
     unfold Hid closedB
     have hne:(bss T) ≠ []:=by intro h;apply h0;have:=congrArg List.length h;simpa [bss] using this
     have hl:(bss T).getLast? = some T[T.length - 1].data.toList:=by
      rw [List.getLast?_eq_getElem?]
      simp [bss]
      exact ⟨T[T.length - 1],List.getElem?_eq_getElem (by omega),rfl⟩
     rw [hl]
     have h1:(bss T).isEmpty=false:=by simpa using hne
     rw [h1,ByteArray.toList_eq];simp
    obtain ⟨t,ht⟩:∃ t,t=T[T.length - 1]:=⟨_,rfl⟩
    rw [← ht] at ck E
    clear ht
    have hp:0 < T.length:=by omega
    go_wp2
    exact bodyPost_ret (v:=.tuple #[.agg (prs v (zeros (bss T)) (lits (bss T)) (some ⟨A,0,none⟩) T.length),.bool (closedB (bss T))]) (by rw [unhide E];simp [results,Tryz.results62,go_sem]) rfl
     ⟨((Below.refl _ _).alloc (Nat.le_refl _) _).alloc (by simp) _,.inl ⟨unhide HALL,rfl⟩⟩
end Rd
end Go.Proofs.YtceahffmenbibaaGreatDoor
