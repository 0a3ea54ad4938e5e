import Derived.Shelf.Small.Strs
import Derived.Shelf.Strconv.Itoa0
import Derived.Shelf.Strconv.Itoa1
import Derived.Shelf.LaysM
import Derived.Shelf.Strconv.Itoa2
import Derived.Shelf.Strconv.Itoa3
import Derived.Shelf.Strconv.ParseIntEmpty
import Derived.Shelf.Strconv.Clone
import Derived.Shelf.Strconv.SyntaxError
import Derived.Shelf.LaysC
import Derived.Shelf.Strconv.ToError
import Derived.Shelf.Strconv.Lower
import Derived.Shelf.Strconv.ParseUint10
import Derived.Shelf.Strconv.ParseUint10Empty
import Derived.Shelf.Strconv.ParseUint10Any
import Derived.Shelf.Strconv.ParseInt10
import Derived.Shelf.Strconv.RangeError
import Derived.Shelf.Strconv.ToErrorRange
import Derived.Shelf.Strconv.ParseUintEmpty
import Derived.Shelf.Strconv.ParseUint10b64
import Derived.Shelf.Strconv.ParseUint10b32
import Derived.Shelf.Strconv.ParseUint10b16
import Derived.Shelf.Strconv.ParseUint10b8
import Derived.Shelf.Strconv.ParseUint10At
import Derived.Shelf.Strconv.ParseInt10At64
import Derived.Shelf.Strconv.ParseInt10At32
import Derived.Shelf.Strconv.ParseInt10At16
import Derived.Shelf.Strconv.ParseInt10At8
import Derived.Shelf.Strconv.ParseInt10All
import Derived.Shelf.Strconv.ParseIntPublic10
import Derived.Shelf.Strconv.ErrVarParseInt
import Derived.Shelf.Strings.Search1
import Derived.Shelf.Slices.Turned
import Derived.Test.YtiopfihjmkfdmaaGreatDoorProg
namespace Go.Proofs
open Go.Shelf
def Tryz.lays137_ren:Go.Shelf.Ren:=⟨fun | 137=>163 | 217=>201 | 266=>230 | n=>n,fun | 9=>9 | 5=>5 | 3=>3 | n=>n,fun | n=>n⟩
theorem Tryz.lays137:Go.Proofs.Lays.n137 Tryz.prog Tryz.lays137_ren:={
  mixed:=by kernel_rfl
  f137:=Tryz.func163.trans (congrArg some (by kernel_rfl))
  f217:=Tryz.func201.trans (congrArg some (by kernel_rfl))
  f266:=Tryz.func230.trans (congrArg some (by kernel_rfl))
  t3:=Tryz.underlying3
  a3:=Tryz.isAgg3
  z3:=Tryz.sizeOf3
  v3:=Tryz.zeroValue3
  t5:=Tryz.underlying5
  a5:=Tryz.isAgg5
  z5:=Tryz.sizeOf5
  v5:=Tryz.zeroValue5
  t9:=Tryz.underlying9
  a9:=Tryz.isAgg9
  z9:=Tryz.sizeOf9
  v9:=Tryz.zeroValue9 }
open Go.RowKit in
theorem Tryz.strings_IndexByte (s:ByteArray) (c:Int) (w:World) :
    Calls Tryz.prog 163 #[.string s,.int .u8 c] w fun e w'=>e=.returned (.int .i64 (Lib.indexByte s.data.toList c.toNat.toUInt8))∧w'=w:=Any.strings_IndexByte Tryz.lays137 s c w
def Tryz.laysC174_ren:Go.Shelf.Ren:=⟨fun | 174=>260 | 247=>263 | 245=>264 | 287=>265 | 279=>266 | 280=>267 | 281=>268 | 282=>269 | 321=>270 | 322=>271 | 316=>272 | 171=>170 | 205=>273 | 243=>209 | 246=>237 | 283=>248 | 284=>249 | 285=>250 | 286=>251 | 129=>256 | 317=>255 | 318=>257 | 319=>258 | 320=>259 | 337=>261 | 338=>262 | n=>n,fun | 9=>9 | 3=>3 | 2=>2 | 75=>23 | 85=>427 | 4=>4 | 167=>433 | 5=>5 | 53=>416 | 175=>434 | 46=>50 | 168=>436 | 37=>151 | 0=>0 | 210=>441 | 21=>21 | 127=>236 | 145=>445 | 143=>443 | 171=>415 | 173=>419 | 212=>423 | 51=>424 | 20=>20 | 213=>425 | 232=>431 | 233=>432 | 80=>157 | n=>n,fun | 15=>9 | 16=>10 | 17=>6 | 18=>7 | 19=>8 | n=>n⟩
theorem Tryz.laysC174:Go.Proofs.LaysC.n174 Tryz.prog Tryz.laysC174_ren:={
  mixed:=by kernel_rfl
  f129:=Tryz.func256.trans (congrArg some (by kernel_rfl))
  f171:=Tryz.func170.trans (congrArg some (by kernel_rfl))
  f174:=Tryz.func260.trans (congrArg some (by kernel_rfl))
  f205:=Tryz.func273.trans (congrArg some (by kernel_rfl))
  f243:=Tryz.func209.trans (congrArg some (by kernel_rfl))
  f245:=Tryz.func264.trans (congrArg some (by kernel_rfl))
  f246:=Tryz.func237.trans (congrArg some (by kernel_rfl))
  f247:=Tryz.func263.trans (congrArg some (by kernel_rfl))
  f279:=Tryz.func266.trans (congrArg some (by kernel_rfl))
  f280:=Tryz.func267.trans (congrArg some (by kernel_rfl))
  f281:=Tryz.func268.trans (congrArg some (by kernel_rfl))
  f282:=Tryz.func269.trans (congrArg some (by kernel_rfl))
  f283:=Tryz.func248.trans (congrArg some (by kernel_rfl))
  f284:=Tryz.func249.trans (congrArg some (by kernel_rfl))
  f285:=Tryz.func250.trans (congrArg some (by kernel_rfl))
  f286:=Tryz.func251.trans (congrArg some (by kernel_rfl))
  f287:=Tryz.func265.trans (congrArg some (by kernel_rfl))
  f316:=Tryz.func272.trans (congrArg some (by kernel_rfl))
  f317:=Tryz.func255.trans (congrArg some (by kernel_rfl))
  f318:=Tryz.func257.trans (congrArg some (by kernel_rfl))
  f319:=Tryz.func258.trans (congrArg some (by kernel_rfl))
  f320:=Tryz.func259.trans (congrArg some (by kernel_rfl))
  f321:=Tryz.func270.trans (congrArg some (by kernel_rfl))
  f322:=Tryz.func271.trans (congrArg some (by kernel_rfl))
  f337:=Tryz.func261.trans (congrArg some (by kernel_rfl))
  f338:=Tryz.func262.trans (congrArg some (by kernel_rfl))
  t0:=Tryz.underlying0
  a0:=Tryz.isAgg0
  z0:=Tryz.sizeOf0
  v0:=Tryz.zeroValue0
  t2:=Tryz.underlying2
  a2:=Tryz.isAgg2
  z2:=Tryz.sizeOf2
  v2:=Tryz.zeroValue2
  t3:=Tryz.underlying3
  a3:=Tryz.isAgg3
  z3:=Tryz.sizeOf3
  v3:=Tryz.zeroValue3
  t4:=Tryz.underlying4
  a4:=Tryz.isAgg4
  z4:=Tryz.sizeOf4
  v4:=Tryz.zeroValue4
  t5:=Tryz.underlying5
  a5:=Tryz.isAgg5
  z5:=Tryz.sizeOf5
  v5:=Tryz.zeroValue5
  t9:=Tryz.underlying9
  a9:=Tryz.isAgg9
  z9:=Tryz.sizeOf9
  v9:=Tryz.zeroValue9
  t20:=Tryz.underlying20
  a20:=Tryz.isAgg20
  z20:=Tryz.sizeOf20
  v20:=Tryz.zeroValue20
  t21:=Tryz.underlying21
  a21:=Tryz.isAgg21
  z21:=Tryz.sizeOf21
  v21:=Tryz.zeroValue21
  t37:=Tryz.underlying151
  a37:=Tryz.isAgg151
  z37:=Tryz.sizeOf151
  v37:=Tryz.zeroValue151
  t46:=Tryz.underlying50
  a46:=Tryz.isAgg50
  z46:=Tryz.sizeOf50
  v46:=Tryz.zeroValue50
  t51:=Tryz.underlying424
  a51:=Tryz.isAgg424
  z51:=Tryz.sizeOf424
  v51:=Tryz.zeroValue424
  t53:=Tryz.underlying416
  a53:=Tryz.isAgg416
  z53:=Tryz.sizeOf416
  v53:=Tryz.zeroValue416
  t75:=Tryz.underlying23
  a75:=Tryz.isAgg23
  z75:=Tryz.sizeOf23
  v75:=Tryz.zeroValue23
  t85:=Tryz.underlying427
  a85:=Tryz.isAgg427
  z85:=Tryz.sizeOf427
  v85:=Tryz.zeroValue427
  t127:=Tryz.underlying236
  a127:=Tryz.isAgg236
  z127:=Tryz.sizeOf236
  v127:=Tryz.zeroValue236
  t143:=Tryz.underlying443
  a143:=Tryz.isAgg443
  z143:=Tryz.sizeOf443
  v143:=Tryz.zeroValue443
  t145:=Tryz.underlying445
  a145:=Tryz.isAgg445
  z145:=Tryz.sizeOf445
  v145:=Tryz.zeroValue445
  t167:=Tryz.underlying433
  a167:=Tryz.isAgg433
  z167:=Tryz.sizeOf433
  v167:=Tryz.zeroValue433
  t168:=Tryz.underlying436
  a168:=Tryz.isAgg436
  z168:=Tryz.sizeOf436
  v168:=Tryz.zeroValue436
  t171:=Tryz.underlying415
  a171:=Tryz.isAgg415
  z171:=Tryz.sizeOf415
  v171:=Tryz.zeroValue415
  t173:=Tryz.underlying419
  a173:=Tryz.isAgg419
  z173:=Tryz.sizeOf419
  v173:=Tryz.zeroValue419
  t175:=Tryz.underlying434
  a175:=Tryz.isAgg434
  z175:=Tryz.sizeOf434
  v175:=Tryz.zeroValue434
  t210:=Tryz.underlying441
  a210:=Tryz.isAgg441
  z210:=Tryz.sizeOf441
  v210:=Tryz.zeroValue441
  t212:=Tryz.underlying423
  a212:=Tryz.isAgg423
  z212:=Tryz.sizeOf423
  v212:=Tryz.zeroValue423
  t213:=Tryz.underlying425
  a213:=Tryz.isAgg425
  z213:=Tryz.sizeOf425
  t232:=Tryz.underlying431
  a232:=Tryz.isAgg431
  z232:=Tryz.sizeOf431
  v232:=Tryz.zeroValue431
  t233:=Tryz.underlying432
  a233:=Tryz.isAgg432
  z233:=Tryz.sizeOf432
  v233:=Tryz.zeroValue432
  g15:=by kernel_rfl
  g16:=by kernel_rfl
  g17:=by kernel_rfl
  g18:=by kernel_rfl
  g19:=by kernel_rfl
  t80:=Tryz.underlying157
  a80:=Tryz.isAgg157
  z80:=Tryz.sizeOf157
  v80:=Tryz.zeroValue157
  i0:=by kernel_rfl
  i2:=by kernel_rfl
  i3:=by kernel_rfl
  i4:=by kernel_rfl
  i5:=by kernel_rfl
  i9:=by kernel_rfl
  i20:=by kernel_rfl
  i21:=by kernel_rfl
  i37:=by kernel_rfl
  i46:=by kernel_rfl
  i51:=by kernel_rfl
  i53:=by kernel_rfl
  i75:=by kernel_rfl
  i80:=by kernel_rfl
  i85:=by kernel_rfl
  i127:=by kernel_rfl
  i143:=by kernel_rfl
  i145:=by kernel_rfl
  i167:=by kernel_rfl
  i168:=by kernel_rfl
  i171:=by kernel_rfl
  i173:=by kernel_rfl
  i175:=by kernel_rfl
  i210:=by kernel_rfl
  i212:=by kernel_rfl
  i232:=by kernel_rfl
  i233:=by kernel_rfl
  m15:=by kernel_rfl
  m16:=by kernel_rfl
  m17:=by kernel_rfl
  m18:=by kernel_rfl
  m19:=by kernel_rfl
  c0:=by kernel_rfl
  c2:=by kernel_rfl
  c3:=by kernel_rfl
  c4:=by kernel_rfl
  c5:=by kernel_rfl
  c9:=by kernel_rfl
  c20:=by kernel_rfl
  c21:=by kernel_rfl
  c37:=by kernel_rfl
  c46:=by kernel_rfl
  c51:=by kernel_rfl
  c53:=by kernel_rfl
  c75:=by kernel_rfl
  c80:=by kernel_rfl
  c85:=by kernel_rfl
  c127:=by kernel_rfl
  c143:=by kernel_rfl
  c145:=by kernel_rfl
  c167:=by kernel_rfl
  c168:=by kernel_rfl
  c171:=by kernel_rfl
  c173:=by kernel_rfl
  c175:=by kernel_rfl
  c210:=by kernel_rfl
  c212:=by kernel_rfl
  c213:=by kernel_rfl
  c232:=by kernel_rfl
  c233:=by kernel_rfl }
open Go.RowKit in
theorem Tryz.strconv_ParseInt_10_at16_ok (s:ByteArray) (hmax:s.size≤9223372036854775806) (v:Int) (h:Lib.parseIntB 16 s.data.toList=.ok v) (w:World) :
    Calls Tryz.prog 260 #[.string s,.int .i64 10,.int .i64 16] w fun e w'=>e=.returned (.tuple #[.int .i64 v,.nilIface])∧(w'=w∨∃ t,w'=Lib.bytesWorld w 5 t):=Any.strconv_ParseInt_10_at16_ok Tryz.laysC174 s hmax v h w
open Go.RowKit in
theorem Tryz.strconv_ParseInt_10_at16_range (s:ByteArray) (hlim:s.size≤281474976710656) (h:Lib.parseIntB 16 s.data.toList=.range) (ev:Value) (w:World) (hv:w.cell? ⟨10,0,none⟩=some ev) (hev:ev=.nilIface∨∃ te pe,ev=.iface te pe) :
    Calls Tryz.prog 260 #[.string s,.int .i64 10,.int .i64 16] w fun e w'=>∃ N,e=.returned (.tuple #[.int .i64 (Lib.intSat 16 s.data.toList),.iface 436 (.pointer (some ⟨N,0,none⟩))])∧w.heap.size≤N∧w'.heap[N]?=some (.cells #[.string ⟨#[80,97,114,115,101,73,110,116]⟩,.string s,ev] 441 (0,0))∧Below w.heap.size w w':=Any.strconv_ParseInt_10_at16_range Tryz.laysC174 s hlim h ev w hv hev
end Go.Proofs
