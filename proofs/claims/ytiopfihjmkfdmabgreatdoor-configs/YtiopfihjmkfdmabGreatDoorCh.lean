import Derived.Shelf.Strings.Builder1
import Derived.Shelf.Small.Strs
import Derived.Shelf.Strconv.Itoa0
import Derived.Shelf.Strconv.Itoa1
import Derived.Shelf.LaysM
import Derived.Shelf.Strconv.Itoa2
import Derived.Shelf.Strconv.Itoa3
import Derived.Shelf.Strconv.ParseIntEmpty
import Derived.Shelf.Strconv.Clone
import Derived.Shelf.Strconv.SyntaxError
import Derived.Shelf.LaysC
import Derived.Shelf.Strconv.ToError
import Derived.Shelf.Strconv.Lower
import Derived.Shelf.Strconv.ParseUint10
import Derived.Shelf.Strconv.ParseUint10Empty
import Derived.Shelf.Strconv.ParseUint10Any
import Derived.Shelf.Strconv.ParseInt10
import Derived.Shelf.Strconv.RangeError
import Derived.Shelf.Strconv.ToErrorRange
import Derived.Shelf.Strconv.ParseUintEmpty
import Derived.Shelf.Strconv.ParseUint10b64
import Derived.Shelf.Strconv.ParseUint10b32
import Derived.Shelf.Strconv.ParseUint10b16
import Derived.Shelf.Strconv.ParseUint10b8
import Derived.Shelf.Strconv.ParseUint10At
import Derived.Shelf.Strconv.ParseInt10At64
import Derived.Shelf.Strconv.ParseInt10At32
import Derived.Shelf.Strconv.ParseInt10At16
import Derived.Shelf.Strconv.ParseInt10At8
import Derived.Shelf.Strconv.ParseInt10All
import Derived.Shelf.Strconv.ParseIntPublic10
import Derived.Shelf.Strconv.ErrVarParseInt
import Derived.Shelf.Strings.Search1
import Derived.Shelf.Slices.Turned
import Derived.Test.YtiopfihjmkfdmabGreatDoorProg
namespace Go.Proofs
open Go.Shelf
def Tryz.lays137_ren:Go.Shelf.Ren:=⟨fun | 137=>156 | 217=>183 | 266=>210 | n=>n,fun | 9=>9 | 5=>5 | 3=>3 | n=>n,fun | n=>n⟩
theorem Tryz.lays137:Go.Proofs.Lays.n137 Tryz.prog Tryz.lays137_ren:={
  mixed:=by kernel_rfl
  f137:=Tryz.func156.trans (congrArg some (by kernel_rfl))
  f217:=Tryz.func183.trans (congrArg some (by kernel_rfl))
  f266:=Tryz.func210.trans (congrArg some (by kernel_rfl))
  t3:=Tryz.underlying3
  a3:=Tryz.isAgg3
  z3:=Tryz.sizeOf3
  v3:=Tryz.zeroValue3
  t5:=Tryz.underlying5
  a5:=Tryz.isAgg5
  z5:=Tryz.sizeOf5
  v5:=Tryz.zeroValue5
  t9:=Tryz.underlying9
  a9:=Tryz.isAgg9
  z9:=Tryz.sizeOf9
  v9:=Tryz.zeroValue9 }
open Go.RowKit in
theorem Tryz.strings_IndexByte (s:ByteArray) (c:Int) (w:World) :
    Calls Tryz.prog 156 #[.string s,.int .u8 c] w fun e w'=>e=.returned (.int .i64 (Lib.indexByte s.data.toList c.toNat.toUInt8))∧w'=w:=Any.strings_IndexByte Tryz.lays137 s c w
def Tryz.laysC174_ren:Go.Shelf.Ren:=⟨fun | 174=>240 | 247=>243 | 245=>244 | 287=>245 | 279=>246 | 280=>247 | 281=>248 | 282=>249 | 321=>250 | 322=>251 | 316=>252 | 171=>177 | 205=>253 | 243=>206 | 246=>225 | 283=>228 | 284=>229 | 285=>230 | 286=>231 | 129=>236 | 317=>235 | 318=>237 | 319=>238 | 320=>239 | 337=>241 | 338=>242 | n=>n,fun | 9=>9 | 3=>3 | 2=>2 | 75=>35 | 85=>420 | 4=>4 | 167=>426 | 5=>5 | 53=>408 | 175=>427 | 46=>418 | 168=>429 | 37=>212 | 0=>0 | 210=>434 | 21=>21 | 127=>264 | 145=>438 | 143=>436 | 171=>407 | 173=>411 | 212=>415 | 51=>416 | 20=>20 | 213=>417 | 232=>424 | 233=>425 | 80=>218 | n=>n,fun | 15=>9 | 16=>10 | 17=>6 | 18=>7 | 19=>8 | n=>n⟩
theorem Tryz.laysC174:Go.Proofs.LaysC.n174 Tryz.prog Tryz.laysC174_ren:={
  mixed:=by kernel_rfl
  f129:=Tryz.func236.trans (congrArg some (by kernel_rfl))
  f171:=Tryz.func177.trans (congrArg some (by kernel_rfl))
  f174:=Tryz.func240.trans (congrArg some (by kernel_rfl))
  f205:=Tryz.func253.trans (congrArg some (by kernel_rfl))
  f243:=Tryz.func206.trans (congrArg some (by kernel_rfl))
  f245:=Tryz.func244.trans (congrArg some (by kernel_rfl))
  f246:=Tryz.func225.trans (congrArg some (by kernel_rfl))
  f247:=Tryz.func243.trans (congrArg some (by kernel_rfl))
  f279:=Tryz.func246.trans (congrArg some (by kernel_rfl))
  f280:=Tryz.func247.trans (congrArg some (by kernel_rfl))
  f281:=Tryz.func248.trans (congrArg some (by kernel_rfl))
  f282:=Tryz.func249.trans (congrArg some (by kernel_rfl))
  f283:=Tryz.func228.trans (congrArg some (by kernel_rfl))
  f284:=Tryz.func229.trans (congrArg some (by kernel_rfl))
  f285:=Tryz.func230.trans (congrArg some (by kernel_rfl))
  f286:=Tryz.func231.trans (congrArg some (by kernel_rfl))
  f287:=Tryz.func245.trans (congrArg some (by kernel_rfl))
  f316:=Tryz.func252.trans (congrArg some (by kernel_rfl))
  f317:=Tryz.func235.trans (congrArg some (by kernel_rfl))
  f318:=Tryz.func237.trans (congrArg some (by kernel_rfl))
  f319:=Tryz.func238.trans (congrArg some (by kernel_rfl))
  f320:=Tryz.func239.trans (congrArg some (by kernel_rfl))
  f321:=Tryz.func250.trans (congrArg some (by kernel_rfl))
  f322:=Tryz.func251.trans (congrArg some (by kernel_rfl))
  f337:=Tryz.func241.trans (congrArg some (by kernel_rfl))
  f338:=Tryz.func242.trans (congrArg some (by kernel_rfl))
  t0:=Tryz.underlying0
  a0:=Tryz.isAgg0
  z0:=Tryz.sizeOf0
  v0:=Tryz.zeroValue0
  t2:=Tryz.underlying2
  a2:=Tryz.isAgg2
  z2:=Tryz.sizeOf2
  v2:=Tryz.zeroValue2
  t3:=Tryz.underlying3
  a3:=Tryz.isAgg3
  z3:=Tryz.sizeOf3
  v3:=Tryz.zeroValue3
  t4:=Tryz.underlying4
  a4:=Tryz.isAgg4
  z4:=Tryz.sizeOf4
  v4:=Tryz.zeroValue4
  t5:=Tryz.underlying5
  a5:=Tryz.isAgg5
  z5:=Tryz.sizeOf5
  v5:=Tryz.zeroValue5
  t9:=Tryz.underlying9
  a9:=Tryz.isAgg9
  z9:=Tryz.sizeOf9
  v9:=Tryz.zeroValue9
  t20:=Tryz.underlying20
  a20:=Tryz.isAgg20
  z20:=Tryz.sizeOf20
  v20:=Tryz.zeroValue20
  t21:=Tryz.underlying21
  a21:=Tryz.isAgg21
  z21:=Tryz.sizeOf21
  v21:=Tryz.zeroValue21
  t37:=Tryz.underlying212
  a37:=Tryz.isAgg212
  z37:=Tryz.sizeOf212
  v37:=Tryz.zeroValue212
  t46:=Tryz.underlying418
  a46:=Tryz.isAgg418
  z46:=Tryz.sizeOf418
  v46:=Tryz.zeroValue418
  t51:=Tryz.underlying416
  a51:=Tryz.isAgg416
  z51:=Tryz.sizeOf416
  v51:=Tryz.zeroValue416
  t53:=Tryz.underlying408
  a53:=Tryz.isAgg408
  z53:=Tryz.sizeOf408
  v53:=Tryz.zeroValue408
  t75:=Tryz.underlying35
  a75:=Tryz.isAgg35
  z75:=Tryz.sizeOf35
  v75:=Tryz.zeroValue35
  t85:=Tryz.underlying420
  a85:=Tryz.isAgg420
  z85:=Tryz.sizeOf420
  v85:=Tryz.zeroValue420
  t127:=Tryz.underlying264
  a127:=Tryz.isAgg264
  z127:=Tryz.sizeOf264
  v127:=Tryz.zeroValue264
  t143:=Tryz.underlying436
  a143:=Tryz.isAgg436
  z143:=Tryz.sizeOf436
  v143:=Tryz.zeroValue436
  t145:=Tryz.underlying438
  a145:=Tryz.isAgg438
  z145:=Tryz.sizeOf438
  v145:=Tryz.zeroValue438
  t167:=Tryz.underlying426
  a167:=Tryz.isAgg426
  z167:=Tryz.sizeOf426
  v167:=Tryz.zeroValue426
  t168:=Tryz.underlying429
  a168:=Tryz.isAgg429
  z168:=Tryz.sizeOf429
  v168:=Tryz.zeroValue429
  t171:=Tryz.underlying407
  a171:=Tryz.isAgg407
  z171:=Tryz.sizeOf407
  v171:=Tryz.zeroValue407
  t173:=Tryz.underlying411
  a173:=Tryz.isAgg411
  z173:=Tryz.sizeOf411
  v173:=Tryz.zeroValue411
  t175:=Tryz.underlying427
  a175:=Tryz.isAgg427
  z175:=Tryz.sizeOf427
  v175:=Tryz.zeroValue427
  t210:=Tryz.underlying434
  a210:=Tryz.isAgg434
  z210:=Tryz.sizeOf434
  v210:=Tryz.zeroValue434
  t212:=Tryz.underlying415
  a212:=Tryz.isAgg415
  z212:=Tryz.sizeOf415
  v212:=Tryz.zeroValue415
  t213:=Tryz.underlying417
  a213:=Tryz.isAgg417
  z213:=Tryz.sizeOf417
  t232:=Tryz.underlying424
  a232:=Tryz.isAgg424
  z232:=Tryz.sizeOf424
  v232:=Tryz.zeroValue424
  t233:=Tryz.underlying425
  a233:=Tryz.isAgg425
  z233:=Tryz.sizeOf425
  v233:=Tryz.zeroValue425
  g15:=by kernel_rfl
  g16:=by kernel_rfl
  g17:=by kernel_rfl
  g18:=by kernel_rfl
  g19:=by kernel_rfl
  t80:=Tryz.underlying218
  a80:=Tryz.isAgg218
  z80:=Tryz.sizeOf218
  v80:=Tryz.zeroValue218
  i0:=by kernel_rfl
  i2:=by kernel_rfl
  i3:=by kernel_rfl
  i4:=by kernel_rfl
  i5:=by kernel_rfl
  i9:=by kernel_rfl
  i20:=by kernel_rfl
  i21:=by kernel_rfl
  i37:=by kernel_rfl
  i46:=by kernel_rfl
  i51:=by kernel_rfl
  i53:=by kernel_rfl
  i75:=by kernel_rfl
  i80:=by kernel_rfl
  i85:=by kernel_rfl
  i127:=by kernel_rfl
  i143:=by kernel_rfl
  i145:=by kernel_rfl
  i167:=by kernel_rfl
  i168:=by kernel_rfl
  i171:=by kernel_rfl
  i173:=by kernel_rfl
  i175:=by kernel_rfl
  i210:=by kernel_rfl
  i212:=by kernel_rfl
  i232:=by kernel_rfl
  i233:=by kernel_rfl
  m15:=by kernel_rfl
  m16:=by kernel_rfl
  m17:=by kernel_rfl
  m18:=by kernel_rfl
  m19:=by kernel_rfl
  c0:=by kernel_rfl
  c2:=by kernel_rfl
  c3:=by kernel_rfl
  c4:=by kernel_rfl
  c5:=by kernel_rfl
  c9:=by kernel_rfl
  c20:=by kernel_rfl
  c21:=by kernel_rfl
  c37:=by kernel_rfl
  c46:=by kernel_rfl
  c51:=by kernel_rfl
  c53:=by kernel_rfl
  c75:=by kernel_rfl
  c80:=by kernel_rfl
  c85:=by kernel_rfl
  c127:=by kernel_rfl
  c143:=by kernel_rfl
  c145:=by kernel_rfl
  c167:=by kernel_rfl
  c168:=by kernel_rfl
  c171:=by kernel_rfl
  c173:=by kernel_rfl
  c175:=by kernel_rfl
  c210:=by kernel_rfl
  c212:=by kernel_rfl
  c213:=by kernel_rfl
  c232:=by kernel_rfl
  c233:=by kernel_rfl }
open Go.RowKit in
theorem Tryz.strconv_ParseInt_10_at16_ok (s:ByteArray) (hmax:s.size≤9223372036854775806) (v:Int) (h:Lib.parseIntB 16 s.data.toList=.ok v) (w:World) :
    Calls Tryz.prog 240 #[.string s,.int .i64 10,.int .i64 16] w fun e w'=>e=.returned (.tuple #[.int .i64 v,.nilIface])∧(w'=w∨∃ t,w'=Lib.bytesWorld w 5 t):=Any.strconv_ParseInt_10_at16_ok Tryz.laysC174 s hmax v h w
open Go.RowKit in
theorem Tryz.strconv_ParseInt_10_at16_range (s:ByteArray) (hlim:s.size≤281474976710656) (h:Lib.parseIntB 16 s.data.toList=.range) (ev:Value) (w:World) (hv:w.cell? ⟨10,0,none⟩=some ev) (hev:ev=.nilIface∨∃ te pe,ev=.iface te pe) :
    Calls Tryz.prog 240 #[.string s,.int .i64 10,.int .i64 16] w fun e w'=>∃ N,e=.returned (.tuple #[.int .i64 (Lib.intSat 16 s.data.toList),.iface 429 (.pointer (some ⟨N,0,none⟩))])∧w.heap.size≤N∧w'.heap[N]?=some (.cells #[.string ⟨#[80,97,114,115,101,73,110,116]⟩,.string s,ev] 434 (0,0))∧Below w.heap.size w w':=Any.strconv_ParseInt_10_at16_range Tryz.laysC174 s hlim h ev w hv hev
def Tryz.lays113_ren:Go.Shelf.Ren:=⟨fun | 113=>318 | n=>n,fun | 28=>25 | 3=>3 | 4=>4 | 9=>9 | 20=>20 | 0=>0 | n=>n,fun | n=>n⟩
theorem Tryz.lays113:Go.Proofs.Lays.n113 Tryz.prog Tryz.lays113_ren:={
  mixed:=by kernel_rfl
  f113:=Tryz.func318.trans (congrArg some (by kernel_rfl))
  t0:=Tryz.underlying0
  a0:=Tryz.isAgg0
  z0:=Tryz.sizeOf0
  v0:=Tryz.zeroValue0
  t3:=Tryz.underlying3
  a3:=Tryz.isAgg3
  z3:=Tryz.sizeOf3
  v3:=Tryz.zeroValue3
  t4:=Tryz.underlying4
  a4:=Tryz.isAgg4
  z4:=Tryz.sizeOf4
  v4:=Tryz.zeroValue4
  t9:=Tryz.underlying9
  a9:=Tryz.isAgg9
  z9:=Tryz.sizeOf9
  v9:=Tryz.zeroValue9
  t20:=Tryz.underlying20
  a20:=Tryz.isAgg20
  z20:=Tryz.sizeOf20
  v20:=Tryz.zeroValue20
  t28:=Tryz.underlying25
  a28:=Tryz.isAgg25
  z28:=Tryz.sizeOf25
  v28:=Tryz.zeroValue25 }
open Go.Lib in
theorem Tryz.slices_Max_int (b off n c:Nat) (zs:List Int) (w:World) (hn:0<n) (hz:n≤zs.length) (hbig:n≤9223372036854775807) (hc:∀ j,j<zs.length→w.cell? ⟨b,off + j,none⟩=some (.int .i64 (zs.getD j 0))) :
    Calls Tryz.prog 318 #[.slice (some ⟨b,off,none⟩) n c] w fun e w'=>e=.returned (.int .i64 (Lib.maxOf (zs.take n)))∧w'=w:=Any.slices_Max_int Tryz.lays113 b off n c zs w hn hz hbig hc
def Tryz.lays114_ren:Go.Shelf.Ren:=⟨fun | 114=>317 | n=>n,fun | 28=>25 | 3=>3 | 4=>4 | 9=>9 | 20=>20 | 0=>0 | n=>n,fun | n=>n⟩
theorem Tryz.lays114:Go.Proofs.Lays.n114 Tryz.prog Tryz.lays114_ren:={
  mixed:=by kernel_rfl
  f114:=Tryz.func317.trans (congrArg some (by kernel_rfl))
  t0:=Tryz.underlying0
  a0:=Tryz.isAgg0
  z0:=Tryz.sizeOf0
  v0:=Tryz.zeroValue0
  t3:=Tryz.underlying3
  a3:=Tryz.isAgg3
  z3:=Tryz.sizeOf3
  v3:=Tryz.zeroValue3
  t4:=Tryz.underlying4
  a4:=Tryz.isAgg4
  z4:=Tryz.sizeOf4
  v4:=Tryz.zeroValue4
  t9:=Tryz.underlying9
  a9:=Tryz.isAgg9
  z9:=Tryz.sizeOf9
  v9:=Tryz.zeroValue9
  t20:=Tryz.underlying20
  a20:=Tryz.isAgg20
  z20:=Tryz.sizeOf20
  v20:=Tryz.zeroValue20
  t28:=Tryz.underlying25
  a28:=Tryz.isAgg25
  z28:=Tryz.sizeOf25
  v28:=Tryz.zeroValue25 }
open Go.Lib in
theorem Tryz.slices_Min_int (b off n c:Nat) (zs:List Int) (w:World) (hn:0<n) (hz:n≤zs.length) (hbig:n≤9223372036854775807) (hc:∀ j,j<zs.length→w.cell? ⟨b,off + j,none⟩=some (.int .i64 (zs.getD j 0))) :
    Calls Tryz.prog 317 #[.slice (some ⟨b,off,none⟩) n c] w fun e w'=>e=.returned (.int .i64 (Lib.minOf (zs.take n)))∧w'=w:=Any.slices_Min_int Tryz.lays114 b off n c zs w hn hz hbig hc
end Go.Proofs
