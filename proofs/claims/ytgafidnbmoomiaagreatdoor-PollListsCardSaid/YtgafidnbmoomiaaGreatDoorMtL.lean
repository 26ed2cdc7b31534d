/-
  THE LIBRARY's OWN CONTRACTS, laid at this program (in plain words): strconv's numDigits, small, formatBase10, toError, lower, Atoi; strings.Repeat. And what of the library's variables they read (Ld). Conditions: what each says.
  CONTRACTS of strconv.FormatUint at the bases 16 and 10 (there of numbers below 1000) and of the program's digits. Conditions: what each says; of the library's variables: Ld.
  NAMES, plain: an object's name, and what any name is of; CONTRACTS of the program's Name and the document's digits, Name, value. Conditions: what each says; of the library's variables: Ld.
  CONTRACTS of the document's Name, value and Parse. Conditions: what each says.
  CONTRACT of the document's Parse. Conditions: what it says.
-/
import Derived.Shelf.Strconv.Itoa1
import Derived.Shelf.Strconv.Itoa2
import Derived.Shelf.Strconv.ToError
import Derived.Shelf.Strconv.Lower
import Derived.Shelf.Strconv.AtoiAll
import Derived.Shelf.Strings.Repeat
import Derived.Lib.AppendIntMem
import Derived.Test.YtgafidnbmoomiaaGreatDoorCln
import Derived.Test.YtgafidnbmoomiaaGreatDoorMtA
import Derived.Deep.DeepCutAuto
import Derived.Test.YtgafidnbmoomiaaGreatDoorMix
import Derived.Lib.MinMax
namespace Go.Proofs.YtgafidnbmoomiaaGreatDoor
open Go.Shelf
set_option maxRecDepth 100000

def Tryz.lays283_ren : Go.Shelf.Ren := ⟨fun | 283 => 136 | n => n, fun | 3 => 3 | 9 => 9 | 4 => 4 | n => n, fun | n => n⟩

theorem Tryz.lays283 : Go.Proofs.Lays.n283 Tryz.prog Tryz.lays283_ren := {
  mixed := by kernel_rfl
  f283 := Tryz.func136.trans (congrArg some (by kernel_rfl))
  t3 := Tryz.underlying3
  a3 := Tryz.isAgg3
  z3 := Tryz.sizeOf3
  v3 := Tryz.zeroValue3
  t4 := Tryz.underlying4
  a4 := Tryz.isAgg4
  z4 := Tryz.sizeOf4
  v4 := Tryz.zeroValue4
  t9 := Tryz.underlying9
  a9 := Tryz.isAgg9
  z9 := Tryz.sizeOf9
  v9 := Tryz.zeroValue9 }

def Tryz.laysM284_ren : Go.Shelf.Ren := ⟨fun | 284 => 137 | 129 => 113 | 317 => 147 | 318 => 148 | n => n, fun | 53 => 83 | 3 => 3 | 212 => 224 | 0 => 0 | 4 => 4 | 46 => 162 | 5 => 5 | 9 => 9 | n => n, fun | 17 => 2 | n => n⟩

theorem Tryz.laysM284 : Go.Proofs.LaysM.n284 Tryz.prog Tryz.laysM284_ren := {
  mixed := by kernel_rfl
  f129 := Tryz.func113.trans (congrArg some (by kernel_rfl))
  f284 := Tryz.func137.trans (congrArg some (by kernel_rfl))
  f317 := Tryz.func147.trans (congrArg some (by kernel_rfl))
  f318 := Tryz.func148.trans (congrArg some (by kernel_rfl))
  t0 := Tryz.underlying0
  a0 := Tryz.isAgg0
  z0 := Tryz.sizeOf0
  v0 := Tryz.zeroValue0
  t3 := Tryz.underlying3
  a3 := Tryz.isAgg3
  z3 := Tryz.sizeOf3
  v3 := Tryz.zeroValue3
  t4 := Tryz.underlying4
  a4 := Tryz.isAgg4
  z4 := Tryz.sizeOf4
  v4 := Tryz.zeroValue4
  t5 := Tryz.underlying5
  a5 := Tryz.isAgg5
  z5 := Tryz.sizeOf5
  v5 := Tryz.zeroValue5
  t9 := Tryz.underlying9
  a9 := Tryz.isAgg9
  z9 := Tryz.sizeOf9
  v9 := Tryz.zeroValue9
  t46 := Tryz.underlying162
  a46 := Tryz.isAgg162
  z46 := Tryz.sizeOf162
  v46 := Tryz.zeroValue162
  t53 := Tryz.underlying83
  a53 := Tryz.isAgg83
  z53 := Tryz.sizeOf83
  v53 := Tryz.zeroValue83
  t212 := Tryz.underlying224
  a212 := Tryz.isAgg224
  z212 := Tryz.sizeOf224
  v212 := Tryz.zeroValue224
  g17 := by kernel_rfl
  i0 := by kernel_rfl
  i3 := by kernel_rfl
  i4 := by kernel_rfl
  i5 := by kernel_rfl
  i9 := by kernel_rfl
  i46 := by kernel_rfl
  i53 := by kernel_rfl
  i212 := by kernel_rfl
  m17 := by kernel_rfl }

def Tryz.lays285_ren : Go.Shelf.Ren := ⟨fun | 285 => 138 | n => n, fun | 37 => 42 | 53 => 83 | 3 => 3 | 4 => 4 | 51 => 166 | 9 => 9 | 5 => 5 | 0 => 0 | n => n, fun | n => n⟩

theorem Tryz.lays285 : Go.Proofs.Lays.n285 Tryz.prog Tryz.lays285_ren := {
  mixed := by kernel_rfl
  f285 := Tryz.func138.trans (congrArg some (by kernel_rfl))
  t0 := Tryz.underlying0
  a0 := Tryz.isAgg0
  z0 := Tryz.sizeOf0
  v0 := Tryz.zeroValue0
  t3 := Tryz.underlying3
  a3 := Tryz.isAgg3
  z3 := Tryz.sizeOf3
  v3 := Tryz.zeroValue3
  t4 := Tryz.underlying4
  a4 := Tryz.isAgg4
  z4 := Tryz.sizeOf4
  v4 := Tryz.zeroValue4
  t5 := Tryz.underlying5
  a5 := Tryz.isAgg5
  z5 := Tryz.sizeOf5
  v5 := Tryz.zeroValue5
  t9 := Tryz.underlying9
  a9 := Tryz.isAgg9
  z9 := Tryz.sizeOf9
  v9 := Tryz.zeroValue9
  t37 := Tryz.underlying42
  a37 := Tryz.isAgg42
  z37 := Tryz.sizeOf42
  v37 := Tryz.zeroValue42
  t51 := Tryz.underlying166
  a51 := Tryz.isAgg166
  z51 := Tryz.sizeOf166
  v51 := Tryz.zeroValue166
  t53 := Tryz.underlying83
  a53 := Tryz.isAgg83
  z53 := Tryz.sizeOf83
  v53 := Tryz.zeroValue83 }

def Tryz.laysC245_ren : Go.Shelf.Ren := ⟨fun | 245 => 90 | 279 => 116 | 280 => 117 | 281 => 118 | 282 => 119 | 316 => 53 | 171 => 135 | 205 => 134 | 243 => 146 | 246 => 153 | 283 => 136 | 284 => 137 | 285 => 138 | 286 => 139 | 129 => 113 | 317 => 147 | 318 => 148 | 319 => 149 | 320 => 150 | 337 => 154 | 338 => 155 | n => n, fun | 9 => 9 | 3 => 3 | 75 => 31 | 167 => 184 | 4 => 4 | 168 => 186 | 210 => 205 | 37 => 42 | 0 => 0 | 127 => 143 | 145 => 221 | 143 => 219 | 2 => 2 | 171 => 207 | 53 => 83 | 5 => 5 | 173 => 209 | 212 => 224 | 51 => 166 | 20 => 20 | 213 => 225 | 46 => 162 | 232 => 230 | 233 => 231 | 80 => 196 | n => n, fun | 15 => 0 | 16 => 1 | 17 => 2 | 18 => 4 | 19 => 5 | n => n⟩

theorem Tryz.laysC245 : Go.Proofs.LaysC.n245 Tryz.prog Tryz.laysC245_ren := {
  mixed := by kernel_rfl
  f129 := Tryz.func113.trans (congrArg some (by kernel_rfl))
  f171 := Tryz.func135.trans (congrArg some (by kernel_rfl))
  f205 := Tryz.func134.trans (congrArg some (by kernel_rfl))
  f243 := Tryz.func146.trans (congrArg some (by kernel_rfl))
  f245 := Tryz.func90.trans (congrArg some (by kernel_rfl))
  f246 := Tryz.func153.trans (congrArg some (by kernel_rfl))
  f279 := Tryz.func116.trans (congrArg some (by kernel_rfl))
  f280 := Tryz.func117.trans (congrArg some (by kernel_rfl))
  f281 := Tryz.func118.trans (congrArg some (by kernel_rfl))
  f282 := Tryz.func119.trans (congrArg some (by kernel_rfl))
  f283 := Tryz.func136.trans (congrArg some (by kernel_rfl))
  f284 := Tryz.func137.trans (congrArg some (by kernel_rfl))
  f285 := Tryz.func138.trans (congrArg some (by kernel_rfl))
  f286 := Tryz.func139.trans (congrArg some (by kernel_rfl))
  f316 := Tryz.func53.trans (congrArg some (by kernel_rfl))
  f317 := Tryz.func147.trans (congrArg some (by kernel_rfl))
  f318 := Tryz.func148.trans (congrArg some (by kernel_rfl))
  f319 := Tryz.func149.trans (congrArg some (by kernel_rfl))
  f320 := Tryz.func150.trans (congrArg some (by kernel_rfl))
  f337 := Tryz.func154.trans (congrArg some (by kernel_rfl))
  f338 := Tryz.func155.trans (congrArg some (by kernel_rfl))
  t0 := Tryz.underlying0
  a0 := Tryz.isAgg0
  z0 := Tryz.sizeOf0
  v0 := Tryz.zeroValue0
  t2 := Tryz.underlying2
  a2 := Tryz.isAgg2
  z2 := Tryz.sizeOf2
  v2 := Tryz.zeroValue2
  t3 := Tryz.underlying3
  a3 := Tryz.isAgg3
  z3 := Tryz.sizeOf3
  v3 := Tryz.zeroValue3
  t4 := Tryz.underlying4
  a4 := Tryz.isAgg4
  z4 := Tryz.sizeOf4
  v4 := Tryz.zeroValue4
  t5 := Tryz.underlying5
  a5 := Tryz.isAgg5
  z5 := Tryz.sizeOf5
  v5 := Tryz.zeroValue5
  t9 := Tryz.underlying9
  a9 := Tryz.isAgg9
  z9 := Tryz.sizeOf9
  v9 := Tryz.zeroValue9
  t20 := Tryz.underlying20
  a20 := Tryz.isAgg20
  z20 := Tryz.sizeOf20
  v20 := Tryz.zeroValue20
  t37 := Tryz.underlying42
  a37 := Tryz.isAgg42
  z37 := Tryz.sizeOf42
  v37 := Tryz.zeroValue42
  t46 := Tryz.underlying162
  a46 := Tryz.isAgg162
  z46 := Tryz.sizeOf162
  v46 := Tryz.zeroValue162
  t51 := Tryz.underlying166
  a51 := Tryz.isAgg166
  z51 := Tryz.sizeOf166
  v51 := Tryz.zeroValue166
  t53 := Tryz.underlying83
  a53 := Tryz.isAgg83
  z53 := Tryz.sizeOf83
  v53 := Tryz.zeroValue83
  t75 := Tryz.underlying31
  a75 := Tryz.isAgg31
  z75 := Tryz.sizeOf31
  v75 := Tryz.zeroValue31
  t127 := Tryz.underlying143
  a127 := Tryz.isAgg143
  z127 := Tryz.sizeOf143
  v127 := Tryz.zeroValue143
  t143 := Tryz.underlying219
  a143 := Tryz.isAgg219
  z143 := Tryz.sizeOf219
  v143 := Tryz.zeroValue219
  t145 := Tryz.underlying221
  a145 := Tryz.isAgg221
  z145 := Tryz.sizeOf221
  v145 := Tryz.zeroValue221
  t167 := Tryz.underlying184
  a167 := Tryz.isAgg184
  z167 := Tryz.sizeOf184
  v167 := Tryz.zeroValue184
  t168 := Tryz.underlying186
  a168 := Tryz.isAgg186
  z168 := Tryz.sizeOf186
  v168 := Tryz.zeroValue186
  t171 := Tryz.underlying207
  a171 := Tryz.isAgg207
  z171 := Tryz.sizeOf207
  v171 := Tryz.zeroValue207
  t173 := Tryz.underlying209
  a173 := Tryz.isAgg209
  z173 := Tryz.sizeOf209
  v173 := Tryz.zeroValue209
  t210 := Tryz.underlying205
  a210 := Tryz.isAgg205
  z210 := Tryz.sizeOf205
  v210 := Tryz.zeroValue205
  t212 := Tryz.underlying224
  a212 := Tryz.isAgg224
  z212 := Tryz.sizeOf224
  v212 := Tryz.zeroValue224
  t213 := Tryz.underlying225
  a213 := Tryz.isAgg225
  z213 := Tryz.sizeOf225
  t232 := Tryz.underlying230
  a232 := Tryz.isAgg230
  z232 := Tryz.sizeOf230
  v232 := Tryz.zeroValue230
  t233 := Tryz.underlying231
  a233 := Tryz.isAgg231
  z233 := Tryz.sizeOf231
  v233 := Tryz.zeroValue231
  g15 := by kernel_rfl
  g16 := by kernel_rfl
  g17 := by kernel_rfl
  g18 := by kernel_rfl
  g19 := by kernel_rfl
  t80 := Tryz.underlying196
  a80 := Tryz.isAgg196
  z80 := Tryz.sizeOf196
  v80 := Tryz.zeroValue196
  i0 := by kernel_rfl
  i2 := by kernel_rfl
  i3 := by kernel_rfl
  i4 := by kernel_rfl
  i5 := by kernel_rfl
  i9 := by kernel_rfl
  i20 := by kernel_rfl
  i37 := by kernel_rfl
  i46 := by kernel_rfl
  i51 := by kernel_rfl
  i53 := by kernel_rfl
  i75 := by kernel_rfl
  i80 := by kernel_rfl
  i127 := by kernel_rfl
  i143 := by kernel_rfl
  i145 := by kernel_rfl
  i167 := by kernel_rfl
  i168 := by kernel_rfl
  i171 := by kernel_rfl
  i173 := by kernel_rfl
  i210 := by kernel_rfl
  i212 := by kernel_rfl
  i232 := by kernel_rfl
  i233 := by kernel_rfl
  m15 := by kernel_rfl
  m16 := by kernel_rfl
  m17 := by kernel_rfl
  m18 := by kernel_rfl
  m19 := by kernel_rfl
  c0 := by kernel_rfl
  c2 := by kernel_rfl
  c3 := by kernel_rfl
  c4 := by kernel_rfl
  c5 := by kernel_rfl
  c9 := by kernel_rfl
  c20 := by kernel_rfl
  c37 := by kernel_rfl
  c46 := by kernel_rfl
  c51 := by kernel_rfl
  c53 := by kernel_rfl
  c75 := by kernel_rfl
  c80 := by kernel_rfl
  c127 := by kernel_rfl
  c143 := by kernel_rfl
  c145 := by kernel_rfl
  c167 := by kernel_rfl
  c168 := by kernel_rfl
  c171 := by kernel_rfl
  c173 := by kernel_rfl
  c210 := by kernel_rfl
  c212 := by kernel_rfl
  c213 := by kernel_rfl
  c232 := by kernel_rfl
  c233 := by kernel_rfl }

def Tryz.lays321_ren : Go.Shelf.Ren := ⟨fun | 321 => 114 | n => n, fun | 5 => 5 | n => n, fun | n => n⟩

theorem Tryz.lays321 : Go.Proofs.Lays.n321 Tryz.prog Tryz.lays321_ren := {
  mixed := by kernel_rfl
  f321 := Tryz.func114.trans (congrArg some (by kernel_rfl))
  t5 := Tryz.underlying5
  a5 := Tryz.isAgg5
  z5 := Tryz.sizeOf5
  v5 := Tryz.zeroValue5 }

def Tryz.laysC172_ren : Go.Shelf.Ren := ⟨fun | 172 => 74 | 244 => 91 | 245 => 90 | 247 => 120 | 279 => 116 | 280 => 117 | 281 => 118 | 282 => 119 | 287 => 89 | 316 => 53 | 171 => 135 | 205 => 134 | 321 => 114 | 322 => 115 | 243 => 146 | 246 => 153 | 283 => 136 | 284 => 137 | 285 => 138 | 286 => 139 | 129 => 113 | 317 => 147 | 318 => 148 | 319 => 149 | 320 => 150 | 337 => 154 | 338 => 155 | n => n, fun | 9 => 9 | 3 => 3 | 75 => 31 | 76 => 147 | 4 => 4 | 5 => 5 | 167 => 184 | 37 => 42 | 0 => 0 | 85 => 189 | 2 => 2 | 168 => 186 | 53 => 83 | 175 => 145 | 46 => 162 | 210 => 205 | 127 => 143 | 145 => 221 | 143 => 219 | 21 => 21 | 171 => 207 | 173 => 209 | 212 => 224 | 51 => 166 | 20 => 20 | 213 => 225 | 232 => 230 | 233 => 231 | 80 => 196 | n => n, fun | 15 => 0 | 16 => 1 | 17 => 2 | 18 => 4 | 19 => 5 | n => n⟩

theorem Tryz.laysC172 : Go.Proofs.LaysC.n172 Tryz.prog Tryz.laysC172_ren := {
  mixed := by kernel_rfl
  f129 := Tryz.func113.trans (congrArg some (by kernel_rfl))
  f171 := Tryz.func135.trans (congrArg some (by kernel_rfl))
  f172 := Tryz.func74.trans (congrArg some (by kernel_rfl))
  f205 := Tryz.func134.trans (congrArg some (by kernel_rfl))
  f243 := Tryz.func146.trans (congrArg some (by kernel_rfl))
  f244 := Tryz.func91.trans (congrArg some (by kernel_rfl))
  f245 := Tryz.func90.trans (congrArg some (by kernel_rfl))
  f246 := Tryz.func153.trans (congrArg some (by kernel_rfl))
  f247 := Tryz.func120.trans (congrArg some (by kernel_rfl))
  f279 := Tryz.func116.trans (congrArg some (by kernel_rfl))
  f280 := Tryz.func117.trans (congrArg some (by kernel_rfl))
  f281 := Tryz.func118.trans (congrArg some (by kernel_rfl))
  f282 := Tryz.func119.trans (congrArg some (by kernel_rfl))
  f283 := Tryz.func136.trans (congrArg some (by kernel_rfl))
  f284 := Tryz.func137.trans (congrArg some (by kernel_rfl))
  f285 := Tryz.func138.trans (congrArg some (by kernel_rfl))
  f286 := Tryz.func139.trans (congrArg some (by kernel_rfl))
  f287 := Tryz.func89.trans (congrArg some (by kernel_rfl))
  f316 := Tryz.func53.trans (congrArg some (by kernel_rfl))
  f317 := Tryz.func147.trans (congrArg some (by kernel_rfl))
  f318 := Tryz.func148.trans (congrArg some (by kernel_rfl))
  f319 := Tryz.func149.trans (congrArg some (by kernel_rfl))
  f320 := Tryz.func150.trans (congrArg some (by kernel_rfl))
  f321 := Tryz.func114.trans (congrArg some (by kernel_rfl))
  f322 := Tryz.func115.trans (congrArg some (by kernel_rfl))
  f337 := Tryz.func154.trans (congrArg some (by kernel_rfl))
  f338 := Tryz.func155.trans (congrArg some (by kernel_rfl))
  t0 := Tryz.underlying0
  a0 := Tryz.isAgg0
  z0 := Tryz.sizeOf0
  v0 := Tryz.zeroValue0
  t2 := Tryz.underlying2
  a2 := Tryz.isAgg2
  z2 := Tryz.sizeOf2
  v2 := Tryz.zeroValue2
  t3 := Tryz.underlying3
  a3 := Tryz.isAgg3
  z3 := Tryz.sizeOf3
  v3 := Tryz.zeroValue3
  t4 := Tryz.underlying4
  a4 := Tryz.isAgg4
  z4 := Tryz.sizeOf4
  v4 := Tryz.zeroValue4
  t5 := Tryz.underlying5
  a5 := Tryz.isAgg5
  z5 := Tryz.sizeOf5
  v5 := Tryz.zeroValue5
  t9 := Tryz.underlying9
  a9 := Tryz.isAgg9
  z9 := Tryz.sizeOf9
  v9 := Tryz.zeroValue9
  t20 := Tryz.underlying20
  a20 := Tryz.isAgg20
  z20 := Tryz.sizeOf20
  v20 := Tryz.zeroValue20
  t21 := Tryz.underlying21
  a21 := Tryz.isAgg21
  z21 := Tryz.sizeOf21
  v21 := Tryz.zeroValue21
  t37 := Tryz.underlying42
  a37 := Tryz.isAgg42
  z37 := Tryz.sizeOf42
  v37 := Tryz.zeroValue42
  t46 := Tryz.underlying162
  a46 := Tryz.isAgg162
  z46 := Tryz.sizeOf162
  v46 := Tryz.zeroValue162
  t51 := Tryz.underlying166
  a51 := Tryz.isAgg166
  z51 := Tryz.sizeOf166
  v51 := Tryz.zeroValue166
  t53 := Tryz.underlying83
  a53 := Tryz.isAgg83
  z53 := Tryz.sizeOf83
  v53 := Tryz.zeroValue83
  t75 := Tryz.underlying31
  a75 := Tryz.isAgg31
  z75 := Tryz.sizeOf31
  v75 := Tryz.zeroValue31
  t76 := Tryz.underlying147
  a76 := Tryz.isAgg147
  z76 := Tryz.sizeOf147
  v76 := Tryz.zeroValue147
  t85 := Tryz.underlying189
  a85 := Tryz.isAgg189
  z85 := Tryz.sizeOf189
  v85 := Tryz.zeroValue189
  t127 := Tryz.underlying143
  a127 := Tryz.isAgg143
  z127 := Tryz.sizeOf143
  v127 := Tryz.zeroValue143
  t143 := Tryz.underlying219
  a143 := Tryz.isAgg219
  z143 := Tryz.sizeOf219
  v143 := Tryz.zeroValue219
  t145 := Tryz.underlying221
  a145 := Tryz.isAgg221
  z145 := Tryz.sizeOf221
  v145 := Tryz.zeroValue221
  t167 := Tryz.underlying184
  a167 := Tryz.isAgg184
  z167 := Tryz.sizeOf184
  v167 := Tryz.zeroValue184
  t168 := Tryz.underlying186
  a168 := Tryz.isAgg186
  z168 := Tryz.sizeOf186
  v168 := Tryz.zeroValue186
  t171 := Tryz.underlying207
  a171 := Tryz.isAgg207
  z171 := Tryz.sizeOf207
  v171 := Tryz.zeroValue207
  t173 := Tryz.underlying209
  a173 := Tryz.isAgg209
  z173 := Tryz.sizeOf209
  v173 := Tryz.zeroValue209
  t175 := Tryz.underlying145
  a175 := Tryz.isAgg145
  z175 := Tryz.sizeOf145
  v175 := Tryz.zeroValue145
  t210 := Tryz.underlying205
  a210 := Tryz.isAgg205
  z210 := Tryz.sizeOf205
  v210 := Tryz.zeroValue205
  t212 := Tryz.underlying224
  a212 := Tryz.isAgg224
  z212 := Tryz.sizeOf224
  v212 := Tryz.zeroValue224
  t213 := Tryz.underlying225
  a213 := Tryz.isAgg225
  z213 := Tryz.sizeOf225
  t232 := Tryz.underlying230
  a232 := Tryz.isAgg230
  z232 := Tryz.sizeOf230
  v232 := Tryz.zeroValue230
  t233 := Tryz.underlying231
  a233 := Tryz.isAgg231
  z233 := Tryz.sizeOf231
  v233 := Tryz.zeroValue231
  g15 := by kernel_rfl
  g16 := by kernel_rfl
  g17 := by kernel_rfl
  g18 := by kernel_rfl
  g19 := by kernel_rfl
  t80 := Tryz.underlying196
  a80 := Tryz.isAgg196
  z80 := Tryz.sizeOf196
  v80 := Tryz.zeroValue196
  i0 := by kernel_rfl
  i2 := by kernel_rfl
  i3 := by kernel_rfl
  i4 := by kernel_rfl
  i5 := by kernel_rfl
  i9 := by kernel_rfl
  i20 := by kernel_rfl
  i21 := by kernel_rfl
  i37 := by kernel_rfl
  i46 := by kernel_rfl
  i51 := by kernel_rfl
  i53 := by kernel_rfl
  i75 := by kernel_rfl
  i76 := by kernel_rfl
  i80 := by kernel_rfl
  i85 := by kernel_rfl
  i127 := by kernel_rfl
  i143 := by kernel_rfl
  i145 := by kernel_rfl
  i167 := by kernel_rfl
  i168 := by kernel_rfl
  i171 := by kernel_rfl
  i173 := by kernel_rfl
  i175 := by kernel_rfl
  i210 := by kernel_rfl
  i212 := by kernel_rfl
  i232 := by kernel_rfl
  i233 := by kernel_rfl
  m15 := by kernel_rfl
  m16 := by kernel_rfl
  m17 := by kernel_rfl
  m18 := by kernel_rfl
  m19 := by kernel_rfl
  c0 := by kernel_rfl
  c2 := by kernel_rfl
  c3 := by kernel_rfl
  c4 := by kernel_rfl
  c5 := by kernel_rfl
  c9 := by kernel_rfl
  c20 := by kernel_rfl
  c21 := by kernel_rfl
  c37 := by kernel_rfl
  c46 := by kernel_rfl
  c51 := by kernel_rfl
  c53 := by kernel_rfl
  c75 := by kernel_rfl
  c76 := by kernel_rfl
  c80 := by kernel_rfl
  c85 := by kernel_rfl
  c127 := by kernel_rfl
  c143 := by kernel_rfl
  c145 := by kernel_rfl
  c167 := by kernel_rfl
  c168 := by kernel_rfl
  c171 := by kernel_rfl
  c173 := by kernel_rfl
  c175 := by kernel_rfl
  c210 := by kernel_rfl
  c212 := by kernel_rfl
  c213 := by kernel_rfl
  c232 := by kernel_rfl
  c233 := by kernel_rfl }

def Tryz.lays105_ren : Go.Shelf.Ren := ⟨fun | 105 => 93 | 212 => 122 | 99 => 71 | 165 => 123 | 166 => 124 | 170 => 125 | 169 => 126 | 263 => 140 | 264 => 141 | 206 => 86 | 240 => 142 | 241 => 143 | 276 => 151 | 277 => 152 | n => n, fun | 9 => 9 | 3 => 3 | 4 => 4 | 20 => 20 | 0 => 0 | 46 => 162 | 109 => 191 | 5 => 5 | 72 => 195 | 76 => 147 | 51 => 166 | 146 => 211 | 53 => 83 | 148 => 213 | 70 => 193 | 37 => 42 | 75 => 31 | 127 => 143 | 164 => 226 | 80 => 196 | n => n, fun | n => n⟩

theorem Tryz.lays105 : Go.Proofs.Lays.n105 Tryz.prog Tryz.lays105_ren := {
  mixed := by kernel_rfl
  f99 := Tryz.func71.trans (congrArg some (by kernel_rfl))
  f105 := Tryz.func93.trans (congrArg some (by kernel_rfl))
  f165 := Tryz.func123.trans (congrArg some (by kernel_rfl))
  f166 := Tryz.func124.trans (congrArg some (by kernel_rfl))
  f169 := Tryz.func126.trans (congrArg some (by kernel_rfl))
  f170 := Tryz.func125.trans (congrArg some (by kernel_rfl))
  f206 := Tryz.func86.trans (congrArg some (by kernel_rfl))
  f212 := Tryz.func122.trans (congrArg some (by kernel_rfl))
  f240 := Tryz.func142.trans (congrArg some (by kernel_rfl))
  f241 := Tryz.func143.trans (congrArg some (by kernel_rfl))
  f263 := Tryz.func140.trans (congrArg some (by kernel_rfl))
  f264 := Tryz.func141.trans (congrArg some (by kernel_rfl))
  f276 := Tryz.func151.trans (congrArg some (by kernel_rfl))
  f277 := Tryz.func152.trans (congrArg some (by kernel_rfl))
  t0 := Tryz.underlying0
  a0 := Tryz.isAgg0
  z0 := Tryz.sizeOf0
  v0 := Tryz.zeroValue0
  t3 := Tryz.underlying3
  a3 := Tryz.isAgg3
  z3 := Tryz.sizeOf3
  v3 := Tryz.zeroValue3
  t4 := Tryz.underlying4
  a4 := Tryz.isAgg4
  z4 := Tryz.sizeOf4
  v4 := Tryz.zeroValue4
  t5 := Tryz.underlying5
  a5 := Tryz.isAgg5
  z5 := Tryz.sizeOf5
  v5 := Tryz.zeroValue5
  t9 := Tryz.underlying9
  a9 := Tryz.isAgg9
  z9 := Tryz.sizeOf9
  v9 := Tryz.zeroValue9
  t20 := Tryz.underlying20
  a20 := Tryz.isAgg20
  z20 := Tryz.sizeOf20
  v20 := Tryz.zeroValue20
  t37 := Tryz.underlying42
  a37 := Tryz.isAgg42
  z37 := Tryz.sizeOf42
  v37 := Tryz.zeroValue42
  t46 := Tryz.underlying162
  a46 := Tryz.isAgg162
  z46 := Tryz.sizeOf162
  v46 := Tryz.zeroValue162
  t51 := Tryz.underlying166
  a51 := Tryz.isAgg166
  z51 := Tryz.sizeOf166
  v51 := Tryz.zeroValue166
  t53 := Tryz.underlying83
  a53 := Tryz.isAgg83
  z53 := Tryz.sizeOf83
  v53 := Tryz.zeroValue83
  t70 := Tryz.underlying193
  a70 := Tryz.isAgg193
  z70 := Tryz.sizeOf193
  v70 := Tryz.zeroValue193
  t72 := Tryz.underlying195
  a72 := Tryz.isAgg195
  z72 := Tryz.sizeOf195
  v72 := Tryz.zeroValue195
  t75 := Tryz.underlying31
  a75 := Tryz.isAgg31
  z75 := Tryz.sizeOf31
  v75 := Tryz.zeroValue31
  t76 := Tryz.underlying147
  a76 := Tryz.isAgg147
  z76 := Tryz.sizeOf147
  v76 := Tryz.zeroValue147
  t109 := Tryz.underlying191
  a109 := Tryz.isAgg191
  z109 := Tryz.sizeOf191
  v109 := Tryz.zeroValue191
  t127 := Tryz.underlying143
  a127 := Tryz.isAgg143
  z127 := Tryz.sizeOf143
  v127 := Tryz.zeroValue143
  t146 := Tryz.underlying211
  a146 := Tryz.isAgg211
  z146 := Tryz.sizeOf211
  v146 := Tryz.zeroValue211
  t148 := Tryz.underlying213
  a148 := Tryz.isAgg213
  z148 := Tryz.sizeOf213
  v148 := Tryz.zeroValue213
  t164 := Tryz.underlying226
  a164 := Tryz.isAgg226
  z164 := Tryz.sizeOf226
  v164 := Tryz.zeroValue226 }

theorem Tryz.Builder_Extra_105 : Builder.Extra Tryz.prog Tryz.lays105_ren := {
  sizeBuilder := by kernel_rfl
  liesBuilder := by kernel_rfl
  t5 := Tryz.underlying5
  a5 := Tryz.isAgg5
  z5 := Tryz.sizeOf5
  v5 := Tryz.zeroValue5
  infoByte := by kernel_rfl
  cellsByte := by kernel_rfl
  sizeByte := by kernel_rfl
  neB5 := by decide }

open Go.RowKit
structure Ld (w : World) : Prop where
  p10 : Lib.TabIs Tryz.prog w "internal/strconv.uint64pow10" .u64 Lib.pow10Tab
  tz : w.cell? ⟨5, 15, none⟩ = some (.int .u8 4)

theorem Ld.below {w w' : World} (h : Ld w) (hb : Below w.heap.size w w') : Ld w' := by
  have key : ∀ {p : Addr} {v : Value}, w.cell? p = some v → w'.cell? p = some v := fun {p v} hp => (hb.cell (World.block_lt_of_cell? w _ hp)).trans hp
  exact ⟨Lib.tabBelow_of_tabIs h.p10 w' hb, key h.tz⟩

theorem Ld.drew {w : World} (h : Ld w) : Ld w.drew := h.below (Below.refl _ _).drew

theorem Ld.drewN {w : World} (h : Ld w) (n : Nat) : Ld (w.drewN n) := h.below (below_drewN (Below.refl _ _) n)

structure LdP (w : World) : Prop where
  ld : Ld w
  syn : ∃ te pe, w.cell? ⟨0, 0, none⟩ = some (.iface te pe)
  rng : ∃ te pe, w.cell? ⟨1, 0, none⟩ = some (.iface te pe)

theorem LdP.below {w w' : World} (h : LdP w) (hb : Below w.heap.size w w') : LdP w' := by
  obtain ⟨te, pe, h1⟩ := h.syn
  obtain ⟨tr, pr, h2⟩ := h.rng
  have key : ∀ {p : Addr} {v : Value}, w.cell? p = some v → w'.cell? p = some v := fun {p v} hp => (hb.cell (World.block_lt_of_cell? w _ hp)).trans hp
  exact ⟨h.ld.below hb, ⟨te, pe, key h1⟩, ⟨tr, pr, key h2⟩⟩

theorem LdP.drew {w : World} (h : LdP w) : LdP w.drew := h.below (Below.refl _ _).drew

theorem LdP.drewN {w : World} (h : LdP w) (n : Nat) : LdP (w.drewN n) := h.below (below_drewN (Below.refl _ _) n)

open Go.Lib in
theorem mrep_any (c : Nat) (w : World) (hc : c ≤ 1000) : Calls Tryz.prog 93 #[.string (Bstr [48]), .int .i64 (c : Int)] w fun e w' => e = .returned (.string (Bstr (List.replicate c 48))) ∧ Below w.heap.size w w' := by
  have h := Any.strings_Repeat Tryz.lays105 Tryz.Builder_Extra_105 (Bstr [48]) c w (by omega) (by rw [Bstr_size]; simp; omega)
  refine h.mono fun e w' ⟨he, hb⟩ => ⟨?_, hb⟩
  rw [he]
  have : Lib.repeatL (Bstr [48]).data.toList c = List.replicate c 48 := by
    have := Lib.repeatL_replicate 48 1 c
    simpa [Bstr] using this
  rw [this]
  rfl

open Go.Lib in
theorem mtsmall_any (n : Nat) (w : World) (h : n < 100) : Calls Tryz.prog 136 #[.int .i64 (n : Int)] w fun e w' => ∃ k, e = .returned (.string (Bstr (digs 10 n k))) ∧ 1 ≤ k ∧ k ≤ 3 ∧ n < 10 ^ k ∧ w' = w := by
  refine (Any.internal_strconv_small Tryz.lays283 n h w).mono fun e w' ⟨he, hw⟩ => ?_
  have key : ∀ m : Fin 100, ∃ k : Fin 4, Lib.decDigits m.val = digs 10 m.val k.val ∧ 1 ≤ k.val ∧ m.val < 10 ^ k.val := by
    intro m
    by_cases h : m.val < 10
    · refine ⟨1, ?_, by decide, by simp; exact h⟩
      rw [Lib.decDigits, dif_pos h, show (1 : Fin 4).val = 1 from rfl]
      simp only [digs, List.nil_append]
      rw [Nat.mod_eq_of_lt h, dchar, if_pos h]
    · refine ⟨2, ?_, by decide, by have := m.isLt; simp⟩
      have h10 : m.val / 10 < 10 := by have := m.isLt; omega
      rw [Lib.decDigits, dif_neg h, Lib.decDigits, dif_pos h10, show (2 : Fin 4).val = 2 from rfl]
      simp only [digs, List.nil_append]
      rw [Nat.mod_eq_of_lt h10, dchar, if_pos h10, dchar, if_pos (Nat.mod_lt _ (by omega))]
  obtain ⟨k, h1, h2, h3⟩ := key ⟨n, h⟩
  refine ⟨k.val, ?_, h2, by have := k.isLt; omega, h3, hw⟩
  rw [he]
  simp only at h1
  rw [h1]
  rfl

open Go.Lib in
theorem atoi_any (s : List UInt8) (w : World) (hl : s.length ≤ 281474976710656) (hL : LdP w) : Calls Tryz.prog 74 #[.string (Bstr s)] w fun e w' => ∃ (n : Int) (x : Value), e = .returned (.tuple #[.int .i64 n, x]) ∧ -9223372036854775808 ≤ n ∧ n ≤ 9223372036854775807 ∧ (∀ m : Nat, m < 1000 → s = digs 10 m 3 → n = (m : Int)) ∧ Below w.heap.size w w' := by
  have hs : (Bstr s).size ≤ 281474976710656 := by rw [Bstr_size]; exact hl
  have hd : (Bstr s).data.toList = s := by simp [Bstr]
  have key : ∀ m : Fin 1000, Lib.atoiAll (digs 10 m.val 3) = .ok (m.val : Int) := by decide +kernel
  obtain ⟨te, pe, h1⟩ := hL.syn
  obtain ⟨tr, pr, h2⟩ := hL.rng
  cases ha : Lib.atoiAll s with
  | ok v =>
    refine (Any.strconv_Atoi_ok Tryz.laysC172 (Bstr s) (by omega) v (by rw [hd]; exact ha) w).mono fun e w' ⟨he, hw⟩ => ?_
    obtain ⟨b1, b2⟩ := Lib.atoiAll_bounds ha
    refine ⟨v, _, he, b1, b2, fun m hm hsm => ?_, ?_⟩
    · rw [hsm, key ⟨m, hm⟩] at ha
      injection ha with ha
      exact ha.symm
    · rcases hw with rfl | ⟨t, rfl⟩
      · exact Below.refl _ _
      · exact ⟨rfl, rfl, rfl, by rw [Lib.bytesWorld_size]; omega, fun j hj => Lib.bytesWorld_at_old w _ _ j hj⟩
  | «syntax» =>
    refine (Any.strconv_Atoi_syntax Tryz.laysC172 (Bstr s) hs (by rw [hd]; exact ha) _ w h1 (.inr ⟨_, _, rfl⟩)).mono fun e w' ⟨N, he, _, _, hb⟩ => ?_
    exact ⟨0, _, he, by omega, by omega, fun m hm hsm => (by rw [hsm, key ⟨m, hm⟩] at ha; cases ha), hb⟩
  | range =>
    refine (Any.strconv_Atoi_range Tryz.laysC172 (Bstr s) hs (by rw [hd]; exact ha) _ w h2 (.inr ⟨_, _, rfl⟩)).mono fun e w' ⟨N, he, _, _, hb⟩ => ?_
    obtain ⟨b1, b2⟩ := Lib.atoiSat_bounds (Bstr s).data.toList
    exact ⟨_, _, he, b1, b2, fun m hm hsm => (by rw [hsm, key ⟨m, hm⟩] at ha; cases ha), hb⟩

open Go.Lib in
theorem toErr_any (fn : ByteArray) (s : List UInt8) (b c : Int) (w : World) (hl : s.length ≤ 281474976710656) (hL : LdP w) : Calls Tryz.prog 90 #[.string fn, .string (Bstr s), .int .i64 b, .int .i64 c, .iface 184 (.int .i64 2)] w fun e w' => ∃ x, e = .returned x ∧ Below w.heap.size w w' := by
  obtain ⟨te, pe, h1⟩ := hL.syn
  exact (Any.strconv_toError_syntax Tryz.laysC245 fn (Bstr s) b c _ w (by rw [Bstr_size]; exact hl) h1 (.inr ⟨_, _, rfl⟩)).mono fun e w' ⟨N, he, _, _, hb⟩ => ⟨_, he, hb⟩

open Go.Lib in
theorem lower_any (c : Int) (w : World) : Calls Tryz.prog 114 #[.int .u8 c] w fun e w' => e = .returned (.int .u8 (bits .or .u8 c 32)) ∧ w' = w :=
  Any.internal_strconv_lower Tryz.lays321 c w

open Go.RowKit

def dg36 : ByteArray := ⟨#[48, 49, 50, 51, 52, 53, 54, 55, 56, 57, 97, 98, 99, 100, 101, 102, 103, 104, 105, 106, 107, 108, 109, 110, 111, 112, 113, 114, 115, 116, 117, 118, 119, 120, 121, 122]⟩

theorem dg36_at (d : Nat) (h : d < 16) : dg36.data[d]? = some (dchar d) := by
  have : ∀ k : Fin 16, dg36.data[k.val]? = some (dchar k.val) := by decide
  exact this ⟨d, h⟩

theorem dchar_toNat (d : Nat) (h : d < 16) : (dchar d).toNat = if d < 10 then 48 + d else 87 + d := by
  have : ∀ k : Fin 16, (dchar k.val).toNat = if k.val < 10 then 48 + k.val else 87 + k.val := by decide
  exact this ⟨d, h⟩

theorem tz_any (w : World) (hL : Ld w) : Calls Tryz.prog 150 #[.int .u64 16] w fun e w' => e = .returned (.int .i64 4) ∧ w' = w := by
  have h := hL.tz
  have h1 : IntKind.u64.wrap (-16) = 18446744073709551600 := by decide
  have h2 : bits .and .u64 16 18446744073709551600 = 16 := by decide
  have h3 : IntKind.u64.wrap (16 * 285870213051353865) = 4573923408821661840 := by decide
  have h4 : (4573923408821661840 : Int) / 288230376151711744 = 15 := by decide
  clear hL
  go_enter Tryz.func150, Tryz.ntmps150
  go_wp2
  go_ret
  exact ⟨rfl, rfl⟩

def fbL (n k : Nat) : List UInt8 := List.replicate (65 - k) 0 ++ digs 16 n k

def fbC (n k : Nat) : Array Value := (BV (fbL n k)).toArray

theorem fbL_length (n k : Nat) (hk : k ≤ 65) : (fbL n k).length = 65 := by simp [fbL, digs_length]; omega

theorem fbL_next (n k : Nat) (hk : k < 65) : (fbL n k).set (64 - k) (dchar (n / 16 ^ k % 16)) = fbL n (k + 1) := by
  have e : 65 - k = 64 - k + 1 := by omega
  unfold fbL
  rw [digs_left, e, List.replicate_succ', List.append_assoc, show 65 - (k + 1) = 64 - k by omega]
  rw [List.set_append_right _ _ (by simp)]
  simp

theorem fbC_next (n k : Nat) (hk : k < 65) : (fbC n k).setIfInBounds (64 - k) (.int .u8 ((dchar (n / 16 ^ k % 16)).toNat : Int)) = fbC n (k + 1) := by
  unfold fbC
  rw [← fbL_next n k hk]
  simp [BV, List.map_set]

theorem and15 (n : Nat) (h : n < 18446744073709551616) : bits .and .u64 (n : Int) 15 = ((n % 16 : Nat) : Int) := by
  have h1 := u64_and_nat n 15 h (by omega)
  have e : n &&& 15 = n % 16 := Nat.and_two_pow_sub_one_eq_mod n 4
  rw [e] at h1
  exact h1

theorem div16_pow (n k : Nat) : n / 16 ^ k / 16 = n / 16 ^ (k + 1) := by rw [Nat.pow_succ, Nat.div_div_eq_div_mul]

theorem pow2_any (w : World) : Calls Tryz.prog 149 #[.int .i64 16] w fun e w' => e = .returned (.bool true) ∧ w' = w := by
  have p1 : bits .and .i64 16 15 = 0 := by decide
  go_enter Tryz.func149, Tryz.ntmps149
  go_wp2
  go_ret
  exact ⟨rfl, rfl⟩

set_option maxHeartbeats 1600000 in
theorem fbits_any (n : Nat) (w : World) (hn : n < 18446744073709551616) (hL : Ld w) :
    Calls Tryz.prog 139 #[.slice none 0 0, .int .u64 (n : Int), .int .i64 16, .bool false, .bool false] w fun e w' => ∃ k, e = .returned (.tuple #[.slice none 0 0, .string (Bstr (digs 16 n k))]) ∧ 1 ≤ k ∧ k ≤ 16 ∧ n < 16 ^ k ∧ Below w.heap.size w w' := by
  have HL := Lib.hid hL
  have hal : Tryz.prog.arrayLen 225 = 65 := by kernel_rfl
  have HN := Lib.hid hn
  clear hL
  go_enter Tryz.func139, Tryz.ntmps139
  go_wp2_with fail
  refine (pow2_any _).mono ?_
  rintro e w1 ⟨rfl, rfl⟩
  go_wp2_with fail
  refine (tz_any _ (HL.out.below ((Below.refl _ _).alloc (Nat.le_refl _) _))).mono ?_
  rintro e w1 ⟨rfl, rfl⟩
  go_wp2_with fail
  have HB : Hid (Blk (w.alloc (.cells Tryz.zeroCells225 225)) w.heap.size 225 (fbC n 0)) := Lib.hid (Blk.new _ _ _)
  have HW : Hid (Below w.heap.size w (w.alloc (.cells Tryz.zeroCells225 225))) := Lib.hid ((Below.refl _ _).alloc (Nat.le_refl _) _)
  revert HB HW
  generalize w.alloc (.cells Tryz.zeroCells225 225) = w1
  intro HB HW
  go_loopg [1, 13] 15 (fun gk uv iv wr => ∃ (k : Nat), k + gk = 15 ∧ uv = .int .u64 ((n / 16 ^ k : Nat) : Int) ∧ iv = .int .i64 (65 - k : Int) ∧ Hid (Blk wr w.heap.size 225 (fbC n k) ∧ Below w.heap.size w wr))
  case atStart => exact ⟨0, by omega, by simp, by simp, Lib.hid ⟨HB.out, HW.out⟩⟩
  case round =>
    obtain ⟨k, hk, rfl, rfl, HM⟩ := hrel
    have hq : n / 16 ^ k < 18446744073709551616 := Nat.lt_of_le_of_lt (Nat.div_le_self _ _) hn
    have hcs : (fbC n k)[65 - k - 1]? = some (.int .u8 (((fbL n k)[64 - k]'(by rw [fbL_length n k (by omega)]; omega)).toNat : Int)) := by
      rw [show 65 - k - 1 = 64 - k by omega]
      unfold fbC
      rw [List.getElem?_toArray, BV_getElem?, List.getElem?_eq_getElem (by rw [fbL_length n k (by omega)]; omega)]
      rfl
    have hc := (HM.out.1.cell (65 - k - 1)).trans hcs
    have hfz := HM.out.1.frozen (65 - k - 1)
    generalize hqq : n / 16 ^ k = q at *
    have HQQ := Lib.hid hqq
    clear hqq hcs
    by_cases h16 : 16 ≤ q
    · have hand := and15 q hq
      have hd : q % 16 < 16 := Nat.mod_lt _ (by omega)
      have HS : Hid ((fbC n k).setIfInBounds (64 - k) (.int .u8 ((dchar (q % 16)).toNat : Int)) = fbC n (k + 1)) := Lib.hid (by
        have := fbC_next n k (by omega)
        rw [HQQ.out] at this
        exact this)
      generalize q % 16 = d at *
      obtain ⟨gk1, hgk1⟩ : ∃ x, gk = x + 1 := ⟨gk - 1, by
        have h1 := HQQ.out
        have h2 := HN.out
        rcases Nat.lt_or_ge k 15 with h | h
        · omega
        · exfalso
          have : n / 16 ^ k < 16 := by
            rw [Nat.div_lt_iff_lt_mul (Nat.pow_pos (by omega))]
            have : k = 15 := by omega
            subst this
            omega
          omega⟩
      go_wp2_with fail
      go_roundg gk1
      case measure => omega
      case rel =>
        refine ⟨k + 1, by omega, ?_, ?_, Lib.hid ⟨?_, ?_⟩⟩
        · rw [← div16_pow, HQQ.out]
          simp
        · congr 1
          omega
        · have h1 := (HM.out.1.set_ (65 - k - 1) (.int .u8 ((dchar d).toNat : Int)))
          rw [show 65 - k - 1 = 64 - k by omega] at h1 ⊢
          rw [HS.out] at h1
          have h2 := dg36_at d hd
          have : (dg36.data[d]'(by have : dg36.data.size = 36 := rfl; omega)) = dchar d := (Array.getElem?_eq_some_iff.1 h2).2
          rw [← this] at h1
          exact h1
        · exact HM.out.2.grown (grown_set _ _ _ _) HM.out.2.size (by intro z hz; injection hz with hz; omega)
    · have HS : Hid ((fbC n k).setIfInBounds (64 - k) (.int .u8 ((dchar q).toNat : Int)) = fbC n (k + 1)) := Lib.hid (by
        have := fbC_next n k (by omega)
        rw [HQQ.out, Nat.mod_eq_of_lt (by omega : q < 16)] at this
        exact this)
      have HE : Hid (n < 16 ^ (k + 1)) := Lib.hid (by
        have h1 := HQQ.out
        have h2 : n / 16 ^ k < 16 := by omega
        rw [Nat.div_lt_iff_lt_mul (Nat.pow_pos (by omega))] at h2
        rw [Nat.pow_succ, Nat.mul_comm]
        exact h2)
      have hsl : ∀ W, (Instr.sliceAt 225 (.pointer (some ⟨w.heap.size, 0, none⟩)) (some (.int .i64 (65 - (k : Int) - 1))) none none).run Tryz.prog W = .ok (.slice (some ⟨w.heap.size, 64 - k, none⟩) (k + 1) (k + 1)) W := fun W => by
        rw [run_sliceAt_array_l W 225 ⟨w.heap.size, 0, none⟩ (by simp [Program.arrayLen, Program.elem, Tryz.underlying225]) .i64 (65 - (k : Int) - 1) (by omega) (by rw [hal]; omega)]
        have e1 : (65 - (k : Int) - 1).toNat = 64 - k := by omega
        rw [e1, hal]
        go_simp
        omega
      have hcv : ∀ u : World, Blk u w.heap.size 225 (fbC n (k + 1)) → (convert 42 9 (.slice (some ⟨w.heap.size, 64 - k, none⟩) (k + 1) (k + 1))).run Tryz.prog u = .ok (.string (Bstr (digs 16 n (k + 1)))) u := fun u hu => by
        have h1 := run_string (P := Tryz.prog) u byteT strT (some ⟨w.heap.size, 64 - k, none⟩) (k + 1) (digs 16 n (k + 1)) (Rd.of_cells fun j x hx => by
          rw [Addr.add_lit, hu.cell]
          unfold fbC
          rw [List.getElem?_toArray, BV_getElem?]
          rw [BV_getElem?] at hx
          rw [fbL, List.getElem?_append_right (by simp)]
          rw [← hx]
          congr 1
          congr 1
          simp)
        rw [digs_length] at h1
        exact h1
      go_wp2_with fail
      rw [hcv _ (by
        have h1 := (HM.out.1.set_ (65 - k - 1) (.int .u8 ((dchar q).toNat : Int)))
        rw [show 65 - k - 1 = 64 - k by omega] at h1 ⊢
        rw [HS.out] at h1
        have h2 := dg36_at q (by omega)
        have : (dg36.data[q]'(by have : dg36.data.size = 36 := rfl; omega)) = dchar q := (Array.getElem?_eq_some_iff.1 h2).2
        rw [← this] at h1
        exact h1)]
      go_wp2_with fail
      go_ret2
      exact ⟨k + 1, rfl, by omega, by omega, HE.out, HM.out.2.grown (grown_set _ _ _ _) HM.out.2.size (by intro z hz; injection hz with hz; omega)⟩

theorem fmt16_any (n : Nat) (w : World) (hn : n < 18446744073709551616) (hL : Ld w) :
    Calls Tryz.prog 92 #[.int .u64 (n : Int), .int .i64 16] w fun e w' => ∃ k, e = .returned (.string (Bstr (digs 16 n k))) ∧ 1 ≤ k ∧ k ≤ 16 ∧ n < 16 ^ k ∧ Below w.heap.size w w' := by
  go_enter Tryz.func92, Tryz.ntmps92
  go_wp2_with first | (go_at_call 121; go_in) | fail
  refine (fbits_any n _ hn hL).mono ?_
  rintro e w1 ⟨k, rfl, h1, h2, h3, hb⟩
  go_wp2_with fail
  go_ret
  exact ⟨k, rfl, h1, h2, h3, hb⟩

theorem nDigits3 (n : Nat) (h1 : 100 ≤ n) (h2 : n < 1000) : Lib.nDigits n = 3 := by
  rw [Lib.nDigits_big (by omega), Lib.nDigits_big (by omega), Lib.nDigits_small (by omega)]

theorem holds_three (w : World) (T : TypeId) : Sort.Holds (fun (b : UInt8) => Value.int .u8 (b.toNat : Int)) (w.alloc (.cells Lib.zeros24 T)) w.heap.size 0 (Array.replicate 3 0) := Lib.holds_zero0 w T 3 (by omega)

theorem fmt3 {n v : Nat} {dk : Array UInt8} (h : Lib.FmtInv 3 n 0 v dk) : dk.toList = digs 10 n 3 := by
  have key : ∀ m j : Nat, Lib.dg m j = dchar (m / 10 ^ j % 10) := fun m j => by
    have : m / 10 ^ j % 10 < 10 := Nat.mod_lt _ (by omega)
    rw [dchar, if_pos this]
    rfl
  have hs := h.size
  apply List.ext_getElem?
  intro i
  by_cases hi : i < 3
  · have h1 := h.done i (by omega) hi
    rw [key] at h1
    have h2 : dk.toList[i]? = some dk[i]! := by
      rw [Array.getElem?_toList, getElem!_pos dk i (by omega)]
      exact Array.getElem?_eq_getElem (by omega)
    rw [h2, h1]
    have : i = 0 ∨ i = 1 ∨ i = 2 := by omega
    rcases this with rfl | rfl | rfl
    · simp [digs, Nat.div_div_eq_div_mul]
    · simp [digs]
    · simp [digs]
  · rw [List.getElem?_eq_none (by simp [hs]; omega), List.getElem?_eq_none (by rw [digs_length]; omega)]

theorem below_putRow {α : Type} [Inhabited α] {enc : α → Value} {B : Nat} {a w : World} (h : Below B a w) {g : Nat} (hg : B ≤ g) (off : Nat) (d : Array α) : Below B a (Sort.putRow enc w g off d) :=
  ⟨h.os, h.tape, h.output, by rw [Sort.size_putRow]; exact h.size, fun j hj => by
    have : (Sort.putRow enc w g off d).heap[j]? = w.heap[j]? := by
      simp only [Sort.putRow, Sort.mapBlock]
      rw [Array.getElem?_modify, if_neg (by omega)]
    rw [this]
    exact h.block j hj⟩

theorem cell?_putRow' {w : World} {g off : Nat} {d0 d : Array UInt8} (enc : UInt8 → Value) (h0 : Sort.Holds enc w g off d0) (hs : d.size = d0.size) (j : Nat) (hj : j < d.size) : (Sort.putRow enc w g off d).cell? ⟨g, off + j, none⟩ = some (enc d[j]!) := Sort.cell?_putRow enc w g off d0 d h0 hs j hj

set_option maxHeartbeats 800000 in
theorem fmt10big_any (n : Nat) (w : World) (h1 : 100 ≤ n) (hn : n < 1000) (hL : Ld w) :
    Calls Tryz.prog 121 #[.int .u64 (n : Int), .int .i64 10] w fun e w' => e = .returned (.string (Bstr (digs 10 n 3))) ∧ Below w.heap.size w w' := by
  have hal : Tryz.prog.arrayLen 207 = 24 := by kernel_rfl
  have hsl : ∀ W, (Instr.sliceAt 207 (.pointer (some ⟨w.heap.size, 0, none⟩)) none (some (.int .i64 3)) none).run Tryz.prog W = .ok (.slice (some ⟨w.heap.size, 0, none⟩) 3 24) W := fun W => by
    rw [run_sliceAt_array_h W 207 ⟨w.heap.size, 0, none⟩ (by simp [Program.arrayLen, Program.elem, Tryz.underlying207]) .i64 3 (by omega) (by rw [hal]; omega), hal]
    go_simp
  have hb0 : Below w.heap.size w (w.alloc (.cells Lib.zeros24 207)) := (Below.refl _ _).alloc (Nat.le_refl _) _
  have hND := fun (u : World) (hu : Ld u) => Any.internal_strconv_numDigits Tryz.laysM284 n (by omega) (by omega) u hu.p10
  rw [nDigits3 n h1 hn] at hND
  have hF := Any.internal_strconv_formatBase10 Tryz.lays285 w.heap.size 0 24 n (Array.replicate 3 0) (w.alloc (.cells Lib.zeros24 207)) (holds_three w _) (by simpa using hn) (by omega) (by simp)
  rw [Array.size_replicate] at hF
  have HL := Lib.hid (hL.below hb0)
  have HB0 := Lib.hid hb0
  clear hal hL hb0
  go_enter Tryz.func121, Tryz.ntmps121
  go_wp2_with fail
  refine (hND _ HL.out).mono ?_
  rintro e w1 ⟨rfl, rfl⟩
  go_wp2_with fail
  refine hF.mono ?_
  rintro e w1 ⟨rfl, k, v', dk, hw1, hI⟩
  have HW : Hid (Below w.heap.size w w1) := Lib.hid (by
    rw [hw1]
    exact below_drewN (below_putRow HB0.out (Nat.le_refl _) _ _) _)
  have HR : Hid (Rd w1 (some ⟨w.heap.size, 0, none⟩) (BV (digs 10 n 3))) := Lib.hid (Rd.of_cells fun j x hx => by
    rw [Addr.add_lit, hw1, World.cell?_drewN, ← fmt3 hI] at *
    rw [BV_getElem?, Array.getElem?_toList] at hx
    have hj : j < dk.size := by
      rcases Nat.lt_or_ge j dk.size with h | h
      · exact h
      · rw [Array.getElem?_eq_none h] at hx
        cases hx
    rw [Array.getElem?_eq_getElem hj] at hx
    rw [cell?_putRow' _ (holds_three w _) (by rw [hI.size]; simp) j hj, getElem!_pos dk j hj]
    simpa using hx)
  clear hw1 hF hND
  go_wp2_with fail
  rw [show (3 : Nat) = (digs 10 n 3).length from rfl, run_string (P := Tryz.prog) w1 byteT strT _ 24 (digs 10 n 3) HR.out]
  go_wp2_with fail
  go_ret
  exact ⟨rfl, HW.out⟩

theorem fmt10_any (n : Nat) (w : World) (hn : n < 1000) (hL : Ld w) :
    Calls Tryz.prog 92 #[.int .u64 (n : Int), .int .i64 10] w fun e w' => ∃ k, e = .returned (.string (Bstr (digs 10 n k))) ∧ 1 ≤ k ∧ k ≤ 3 ∧ n < 10 ^ k ∧ Below w.heap.size w w' := by
  by_cases h : n < 100
  · go_enter Tryz.func92, Tryz.ntmps92
    go_wp2_with first | (go_at_call 121; go_in) | fail
    refine (mtsmall_any n _ h).mono ?_
    rintro e w1 ⟨k, rfl, h1, h2, h3, rfl⟩
    go_wp2_with fail
    go_ret
    exact ⟨k, rfl, h1, h2, h3, Below.refl _ _⟩
  · go_enter Tryz.func92, Tryz.ntmps92
    go_wp2_with fail
    refine (fmt10big_any n _ (by omega) hn hL).mono ?_
    rintro e w1 ⟨rfl, hb⟩
    go_wp2_with fail
    go_ret
    exact ⟨3, rfl, by omega, by omega, by omega, hb⟩

theorem mdig_any (b m n : Nat) (w : World) (hb0 : 0 < b) (hm : m ≤ 16)
    (hC : Calls Tryz.prog 92 #[.int .u64 (n : Int), .int .i64 (b : Int)] w fun e w' => ∃ k, e = .returned (.string (Bstr (digs b n k))) ∧ 1 ≤ k ∧ k ≤ m ∧ n < b ^ k ∧ Below w.heap.size w w') :
    Calls Tryz.prog 75 #[.int .u64 (n : Int), .int .i64 (b : Int), .int .i64 (m : Int)] w fun e w' => e = .returned (.string (Bstr (digs b n m))) ∧ Below w.heap.size w w' := by
  go_enter Tryz.func75, Tryz.ntmps75
  go_wp2_with fail
  refine hC.mono ?_
  rintro e w1 ⟨k, rfl, h1, h2, h3, hb1⟩
  have hlen : (Bstr (digs b n k)).size = k := by rw [Bstr_size, digs_length]
  have hmk : (m : Int) - k = ((m - k : Nat) : Int) := by omega
  have hadd := addStr (List.replicate (m - k) 48) (digs b n k) (by simp [digs_length]; omega)
  have hpad := digs_pad b hb0 k (m - k) n h3
  rw [show m - k + k = m by omega] at hpad
  rw [← hpad] at hadd
  clear hpad h3 hC
  go_wp2_with fail
  refine (mrep_any (m - k) _ (by omega)).mono ?_
  rintro e w2 ⟨rfl, hb2⟩
  go_wp2_with fail
  go_ret
  exact ⟨rfl, hb1.trans (hb2.mono hb1.size)⟩

theorem dig16_any (n : Nat) (w : World) (hn : n < 18446744073709551616) (hL : Ld w) :
    Calls Tryz.prog 75 #[.int .u64 (n : Int), .int .i64 16, .int .i64 16] w fun e w' => e = .returned (.string (Bstr (digs 16 n 16))) ∧ Below w.heap.size w w' :=
  mdig_any 16 16 n w (by omega) (by omega) (fmt16_any n w hn hL)

theorem dig10_any (n : Nat) (w : World) (hn : n < 1000) (hL : Ld w) :
    Calls Tryz.prog 75 #[.int .u64 (n : Int), .int .i64 10, .int .i64 3] w fun e w' => e = .returned (.string (Bstr (digs 10 n 3))) ∧ Below w.heap.size w w' :=
  mdig_any 10 3 n w (by omega) (by omega) (fmt10_any n w hn hL)

def dval (c : UInt8) : Nat := if 97 ≤ c.toNat ∧ c.toNat ≤ 102 then c.toNat - 87 else c.toNat % 16

theorem dval_dchar (d : Nat) (h : d < 16) : dval (dchar d) = d := by
  have : ∀ k : Fin 16, dval (dchar k.val) = k.val := by decide
  exact this ⟨d, h⟩

theorem dval_lt (c : UInt8) : dval c < 16 := by
  unfold dval
  split <;> omega

def valD (b : Nat) (l : List UInt8) : Nat := l.foldl (fun a c => b * a + dval c) 0

theorem valD_snoc (b : Nat) (l : List UInt8) (c : UInt8) : valD b (l ++ [c]) = b * valD b l + dval c := by simp [valD]

theorem valD_digs (b : Nat) (hb : b ≤ 16) (hb0 : 0 < b) : ∀ (k n : Nat), valD b (digs b n k) = n % b ^ k
  | 0, n => by simp [digs, valD, Nat.mod_one]
  | k + 1, n => by
    rw [digs, valD_snoc, valD_digs b hb hb0 k, dval_dchar _ (Nat.lt_of_lt_of_le (Nat.mod_lt _ hb0) hb), Nat.pow_succ', Nat.mod_mul]
    omega

theorem digs_inj (b k : Nat) (hb : b ≤ 16) (hb0 : 0 < b) {m n : Nat} (hm : m < b ^ k) (hn : n < b ^ k) (h : digs b m k = digs b n k) : m = n := by
  have := congrArg (valD b) h
  rw [valD_digs b hb hb0, valD_digs b hb hb0, Nat.mod_eq_of_lt hm, Nat.mod_eq_of_lt hn] at this
  exact this

theorem valD_lt (l : List UInt8) : valD 16 l < 16 ^ l.length := by
  have key : ∀ (r : List UInt8) (a : Nat), r.foldl (fun a c => 16 * a + dval c) a < (a + 1) * 16 ^ r.length := by
    intro r
    induction r with
    | nil => intro a; simp
    | cons c r ih =>
      intro a
      have h1 := ih (16 * a + dval c)
      have h2 := dval_lt c
      rw [List.foldl_cons, List.length_cons, Nat.pow_succ']
      refine Nat.lt_of_lt_of_le h1 ?_
      rw [← Nat.mul_assoc]
      exact Nat.mul_le_mul_right _ (by omega)
  have := key l 0
  simpa [valD] using this

def pgN (page : Int) : Nat := (max page 0 % 1000).toNat

theorem pgN_lt (page : Int) : pgN page < 1000 := by unfold pgN; omega

theorem pgN_nat (n : Nat) (h : n < 1000) : pgN (n : Int) = n := by unfold pgN; omega

def nmHead (id : Nat) : List UInt8 := [98, 47] ++ digs 16 id 16 ++ [47]

theorem nmHead_length (id : Nat) : (nmHead id).length = 19 := by simp [nmHead, digs_length]

def sortW (what : List UInt8) : Prop := what = [109] ∨ what = [105] ∨ what = [102] ∨ what = [120]

instance (what : List UInt8) : Decidable (sortW what) := by unfold sortW; infer_instance

def nmOf (id : Nat) (what : List UInt8) (page : Int) : List UInt8 :=
  if sortW what then nmHead id ++ what else if what = [112] then nmHead id ++ [112] ++ digs 10 (pgN page) 3 else []

theorem sortW_len {what : List UInt8} (h : sortW what) : what.length = 1 := by
  rcases h with rfl | rfl | rfl | rfl <;> rfl

theorem sortW_p : ¬ sortW [112] := by decide

theorem nmOf_sort {id : Nat} {what : List UInt8} {page : Int} (h : sortW what) : nmOf id what page = nmHead id ++ what := if_pos h

theorem nmOf_p (id : Nat) (page : Int) : nmOf id [112] page = nmHead id ++ [112] ++ digs 10 (pgN page) 3 := by rw [nmOf, if_neg sortW_p, if_pos rfl]

theorem nmOf_none {id : Nat} {what : List UInt8} {page : Int} (h : ¬ sortW what) (hp : what ≠ [112]) : nmOf id what page = [] := by rw [nmOf, if_neg h, if_neg hp]

structure NamedAs (s : List UInt8) (id : Nat) (what : List UInt8) (n : Nat) : Prop where
  idlt : id < 18446744073709551616
  nlt : n < 1000
  kind : what = [112] ∨ (sortW what ∧ n = 0)
  eq : s = nmOf id what n

theorem NamedAs.parts {s : List UInt8} {id : Nat} {what : List UInt8} {n : Nat} (h : NamedAs s id what n) :
    (s.drop 2).take 16 = digs 16 id 16 ∧ (s.drop 19).take 1 = what ∧ (what = [112] → s.drop 20 = digs 10 n 3 ∧ s.length = 23) ∧ (sortW what → s.length = 20) := by
  have hl := digs_length 16 id 16
  have hk := digs_length 10 n 3
  rcases h.kind with rfl | ⟨hw, rfl⟩
  · have e := h.eq
    rw [nmOf_p, pgN_nat n h.nlt, nmHead] at e
    subst e
    refine ⟨?_, ?_, fun _ => ⟨?_, ?_⟩, fun hs => absurd hs sortW_p⟩
    · exact cutp (a := [98, 47]) (b := digs 16 id 16) (c := [47] ++ ([112] ++ digs 10 n 3)) (by simp) rfl hl
    · exact cutp (a := [98, 47] ++ digs 16 id 16 ++ [47]) (b := [112]) (c := digs 10 n 3) (by simp) (by simp [hl]) rfl
    · rw [List.drop_append_of_le_length (by simp [hl]), List.drop_eq_nil_of_le (by simp [hl])]
      rfl
    · simp [hl, hk]
  · have e := h.eq
    rw [nmOf_sort hw, nmHead] at e
    subst e
    have h1 := sortW_len hw
    refine ⟨?_, ?_, fun hp => absurd (hp ▸ hw) sortW_p, fun _ => by simp [hl, h1]⟩
    · exact cutp (a := [98, 47]) (b := digs 16 id 16) (c := [47] ++ what) (by simp) rfl hl
    · exact cutp (a := [98, 47] ++ digs 16 id 16 ++ [47]) (b := what) (c := []) (by simp) (by simp [hl]) h1

theorem NamedAs.one {s : List UInt8} {id id' : Nat} {what what' : List UInt8} {n n' : Nat} (h : NamedAs s id what n) (h' : NamedAs s id' what' n') : id = id' ∧ what = what' ∧ n = n' := by
  obtain ⟨a1, a2, a3, a4⟩ := h.parts
  obtain ⟨b1, b2, b3, b4⟩ := h'.parts
  have e1 : id = id' := digs_inj 16 16 (by omega) (by omega) h.idlt h'.idlt (by rw [← a1, ← b1])
  have e2 : what = what' := by rw [← a2, ← b2]
  refine ⟨e1, e2, ?_⟩
  subst e2
  rcases h.kind with hp | ⟨hw, rfl⟩
  · have := (a3 hp).1
    rw [(b3 hp).1] at this
    exact (digs_inj 10 3 (by omega) (by omega) h'.nlt h.nlt this).symm
  · rcases h'.kind with hp | ⟨_, rfl⟩
    · exact absurd (hp ▸ hw) sortW_p
    · rfl

theorem NamedAs.of_name (id : Nat) (what : List UInt8) (page : Int) (hi : id < 18446744073709551616) (h : what = [112] ∨ sortW what) : NamedAs (nmOf id what page) id what (if what = [112] then pgN page else 0) := by
  rcases h with rfl | hw
  · rw [if_pos rfl]
    exact ⟨hi, pgN_lt _, .inl rfl, by rw [nmOf_p, nmOf_p, pgN_nat _ (pgN_lt _)]⟩
  · rw [if_neg (fun e : what = [112] => sortW_p (e ▸ hw))]
    exact ⟨hi, by omega, .inr ⟨hw, rfl⟩, by rw [nmOf_sort hw, nmOf_sort hw]⟩

def ParseP (s : List UInt8) (id : Nat) (what : List UInt8) (n : Int) (is : Bool) : Prop :=
  (is = true ∧ ∃ k : Nat, n = (k : Int) ∧ NamedAs s id what k) ∨ (is = false ∧ id = 0 ∧ what = [] ∧ n = 0 ∧ ∀ i w k, ¬ NamedAs s i w k)

theorem ParseP.one {s : List UInt8} {id id' : Nat} {what what' : List UInt8} {n n' : Int} {is is' : Bool} (h : ParseP s id what n is) (h' : ParseP s id' what' n' is') : id = id' ∧ what = what' ∧ n = n' ∧ is = is' := by
  rcases h with ⟨rfl, k, rfl, h⟩ | ⟨rfl, rfl, rfl, rfl, h⟩
  · rcases h' with ⟨rfl, k', rfl, h'⟩ | ⟨_, _, _, _, h'⟩
    · obtain ⟨e1, e2, e3⟩ := h.one h'
      exact ⟨e1, e2, by rw [e3], rfl⟩
    · exact absurd h (h' _ _ _)
  · rcases h' with ⟨rfl, k', rfl, h'⟩ | ⟨rfl, rfl, rfl, rfl, _⟩
    · exact absurd h' (h _ _ _)
    · exact ⟨rfl, rfl, rfl, rfl⟩

theorem BSlist (s : List UInt8) : (Bstr s).toList = s := Bstr_toList s

theorem addStr' (l m : List UInt8) (k : List UInt8) (e : l ++ m = k) (h : k.length ≤ 140737488355328) (u : World) : (Op.stringOp .add (Bstr l) (Bstr m)).run Tryz.prog u = .ok (.string (Bstr k)) u := by
  subst e
  exact addStr l m (by simpa using h) u

theorem wrapU' (n : Nat) (h : n < 18446744073709551616) : IntKind.u64.wrap (n : Int) = (n : Int) := by rw [IntKind.wrap_u64]; omega

set_option maxHeartbeats 800000 in
theorem mname_m (id : Nat) (page : Int) (w : World) (hi : id < 18446744073709551616) (hL : Ld w) :
    Calls Tryz.prog 57 #[.int .u64 (id : Int), .string ⟨#[109]⟩, .int .i64 page] w fun e w' => e = .returned (.string (Bstr (nmHead id ++ [109]))) ∧ Below w.heap.size w w' := by
  have a1 : ∀ u, (Op.stringOp .add ⟨#[98, 47]⟩ (Bstr (digs 16 id 16))).run Tryz.prog u = .ok (.string (Bstr ([98, 47] ++ digs 16 id 16))) u := addStr' [98, 47] (digs 16 id 16) ([98, 47] ++ digs 16 id 16) rfl (by simp [digs_length])
  have a2 : ∀ u, (Op.stringOp .add (Bstr ([98, 47] ++ digs 16 id 16)) ⟨#[47]⟩).run Tryz.prog u = .ok (.string (Bstr (nmHead id))) u := addStr' ([98, 47] ++ digs 16 id 16) [47] (nmHead id) rfl (by rw [nmHead_length]; omega)
  have a3 : ∀ u, (Op.stringOp .add (Bstr (nmHead id)) ⟨#[109]⟩).run Tryz.prog u = .ok (.string (Bstr (nmHead id ++ [109]))) u := addStr' (nmHead id) [109] (nmHead id ++ [109]) rfl (by simp [nmHead_length])
  have hC := dig16_any id w hi hL
  generalize nmHead id ++ [109] = k3 at *
  generalize nmHead id = k2 at *
  generalize [98, 47] ++ digs 16 id 16 = k1 at *
  generalize digs 16 id 16 = k0 at *
  clear hi hL
  go_enter Tryz.func57, Tryz.ntmps57
  go_wp2_with fail
  refine hC.mono ?_
  rintro e w1 ⟨rfl, hb1⟩
  go_wp2_with fail
  go_ret
  exact ⟨rfl, hb1⟩

set_option maxHeartbeats 800000 in
theorem mname_i (id : Nat) (page : Int) (w : World) (hi : id < 18446744073709551616) (hL : Ld w) :
    Calls Tryz.prog 57 #[.int .u64 (id : Int), .string ⟨#[105]⟩, .int .i64 page] w fun e w' => e = .returned (.string (Bstr (nmHead id ++ [105]))) ∧ Below w.heap.size w w' := by
  have a1 : ∀ u, (Op.stringOp .add ⟨#[98, 47]⟩ (Bstr (digs 16 id 16))).run Tryz.prog u = .ok (.string (Bstr ([98, 47] ++ digs 16 id 16))) u := addStr' [98, 47] (digs 16 id 16) ([98, 47] ++ digs 16 id 16) rfl (by simp [digs_length])
  have a2 : ∀ u, (Op.stringOp .add (Bstr ([98, 47] ++ digs 16 id 16)) ⟨#[47]⟩).run Tryz.prog u = .ok (.string (Bstr (nmHead id))) u := addStr' ([98, 47] ++ digs 16 id 16) [47] (nmHead id) rfl (by rw [nmHead_length]; omega)
  have a3 : ∀ u, (Op.stringOp .add (Bstr (nmHead id)) ⟨#[105]⟩).run Tryz.prog u = .ok (.string (Bstr (nmHead id ++ [105]))) u := addStr' (nmHead id) [105] (nmHead id ++ [105]) rfl (by simp [nmHead_length])
  have hC := dig16_any id w hi hL
  generalize nmHead id ++ [105] = k3 at *
  generalize nmHead id = k2 at *
  generalize [98, 47] ++ digs 16 id 16 = k1 at *
  generalize digs 16 id 16 = k0 at *
  clear hi hL
  go_enter Tryz.func57, Tryz.ntmps57
  go_wp2_with fail
  refine hC.mono ?_
  rintro e w1 ⟨rfl, hb1⟩
  go_wp2_with fail
  go_ret
  exact ⟨rfl, hb1⟩

set_option maxHeartbeats 800000 in
theorem mname_f (id : Nat) (page : Int) (w : World) (hi : id < 18446744073709551616) (hL : Ld w) :
    Calls Tryz.prog 57 #[.int .u64 (id : Int), .string ⟨#[102]⟩, .int .i64 page] w fun e w' => e = .returned (.string (Bstr (nmHead id ++ [102]))) ∧ Below w.heap.size w w' := by
  have a1 : ∀ u, (Op.stringOp .add ⟨#[98, 47]⟩ (Bstr (digs 16 id 16))).run Tryz.prog u = .ok (.string (Bstr ([98, 47] ++ digs 16 id 16))) u := addStr' [98, 47] (digs 16 id 16) ([98, 47] ++ digs 16 id 16) rfl (by simp [digs_length])
  have a2 : ∀ u, (Op.stringOp .add (Bstr ([98, 47] ++ digs 16 id 16)) ⟨#[47]⟩).run Tryz.prog u = .ok (.string (Bstr (nmHead id))) u := addStr' ([98, 47] ++ digs 16 id 16) [47] (nmHead id) rfl (by rw [nmHead_length]; omega)
  have a3 : ∀ u, (Op.stringOp .add (Bstr (nmHead id)) ⟨#[102]⟩).run Tryz.prog u = .ok (.string (Bstr (nmHead id ++ [102]))) u := addStr' (nmHead id) [102] (nmHead id ++ [102]) rfl (by simp [nmHead_length])
  have hC := dig16_any id w hi hL
  generalize nmHead id ++ [102] = k3 at *
  generalize nmHead id = k2 at *
  generalize [98, 47] ++ digs 16 id 16 = k1 at *
  generalize digs 16 id 16 = k0 at *
  clear hi hL
  go_enter Tryz.func57, Tryz.ntmps57
  go_wp2_with fail
  refine hC.mono ?_
  rintro e w1 ⟨rfl, hb1⟩
  go_wp2_with fail
  go_ret
  exact ⟨rfl, hb1⟩

set_option maxHeartbeats 800000 in
theorem mname_x (id : Nat) (page : Int) (w : World) (hi : id < 18446744073709551616) (hL : Ld w) :
    Calls Tryz.prog 57 #[.int .u64 (id : Int), .string ⟨#[120]⟩, .int .i64 page] w fun e w' => e = .returned (.string (Bstr (nmHead id ++ [120]))) ∧ Below w.heap.size w w' := by
  have a1 : ∀ u, (Op.stringOp .add ⟨#[98, 47]⟩ (Bstr (digs 16 id 16))).run Tryz.prog u = .ok (.string (Bstr ([98, 47] ++ digs 16 id 16))) u := addStr' [98, 47] (digs 16 id 16) ([98, 47] ++ digs 16 id 16) rfl (by simp [digs_length])
  have a2 : ∀ u, (Op.stringOp .add (Bstr ([98, 47] ++ digs 16 id 16)) ⟨#[47]⟩).run Tryz.prog u = .ok (.string (Bstr (nmHead id))) u := addStr' ([98, 47] ++ digs 16 id 16) [47] (nmHead id) rfl (by rw [nmHead_length]; omega)
  have a3 : ∀ u, (Op.stringOp .add (Bstr (nmHead id)) ⟨#[120]⟩).run Tryz.prog u = .ok (.string (Bstr (nmHead id ++ [120]))) u := addStr' (nmHead id) [120] (nmHead id ++ [120]) rfl (by simp [nmHead_length])
  have hC := dig16_any id w hi hL
  generalize nmHead id ++ [120] = k3 at *
  generalize nmHead id = k2 at *
  generalize [98, 47] ++ digs 16 id 16 = k1 at *
  generalize digs 16 id 16 = k0 at *
  clear hi hL
  go_enter Tryz.func57, Tryz.ntmps57
  go_wp2_with fail
  refine hC.mono ?_
  rintro e w1 ⟨rfl, hb1⟩
  go_wp2_with fail
  go_ret
  exact ⟨rfl, hb1⟩

set_option maxHeartbeats 800000 in
theorem mname_p (id : Nat) (page : Int) (w : World) (hi : id < 18446744073709551616) (hL : Ld w) :
    Calls Tryz.prog 57 #[.int .u64 (id : Int), .string ⟨#[112]⟩, .int .i64 page] w fun e w' => e = .returned (.string (Bstr (nmHead id ++ [112] ++ digs 10 (pgN page) 3))) ∧ Below w.heap.size w w' := by
  have a1 : ∀ u, (Op.stringOp .add ⟨#[98, 47]⟩ (Bstr (digs 16 id 16))).run Tryz.prog u = .ok (.string (Bstr ([98, 47] ++ digs 16 id 16))) u := addStr' [98, 47] (digs 16 id 16) ([98, 47] ++ digs 16 id 16) rfl (by simp [digs_length])
  have a2 : ∀ u, (Op.stringOp .add (Bstr ([98, 47] ++ digs 16 id 16)) ⟨#[47]⟩).run Tryz.prog u = .ok (.string (Bstr (nmHead id))) u := addStr' ([98, 47] ++ digs 16 id 16) [47] (nmHead id) rfl (by rw [nmHead_length]; omega)
  have a3 : ∀ u, (Op.stringOp .add (Bstr (nmHead id)) ⟨#[112]⟩).run Tryz.prog u = .ok (.string (Bstr (nmHead id ++ [112]))) u := addStr' (nmHead id) [112] (nmHead id ++ [112]) rfl (by simp [nmHead_length])
  have a4 : ∀ u, (Op.stringOp .add (Bstr (nmHead id ++ [112])) (Bstr (digs 10 (pgN page) 3))).run Tryz.prog u = .ok (.string (Bstr (nmHead id ++ [112] ++ digs 10 (pgN page) 3))) u := addStr' (nmHead id ++ [112]) (digs 10 (pgN page) 3) _ rfl (by simp [nmHead_length, digs_length])
  obtain ⟨t, ht⟩ : ∃ t : Nat, max page 0 = (t : Int) := ⟨(max page 0).toNat, by omega⟩
  have hn : (t : Int) % 1000 = ((pgN page : Nat) : Int) := by unfold pgN; omega
  have hlt := pgN_lt page
  have hwr := wrapU' (pgN page) (by omega)
  have hC := dig16_any id w hi hL
  have hD := fun u hu => dig10_any (pgN page) u hlt hu
  have HL := Lib.hid hL
  generalize nmHead id ++ [112] ++ digs 10 (pgN page) 3 = k4 at *
  generalize nmHead id ++ [112] = k3 at *
  generalize nmHead id = k2 at *
  generalize [98, 47] ++ digs 16 id 16 = k1 at *
  generalize digs 16 id 16 = k0 at *
  generalize digs 10 (pgN page) 3 = kd at *
  generalize pgN page = n at *
  clear hi hL
  go_enter Tryz.func57, Tryz.ntmps57
  go_wp2_with fail
  refine hC.mono ?_
  rintro e w1 ⟨rfl, hb1⟩
  go_wp2_with fail
  refine (hD _ (HL.out.below hb1)).mono ?_
  rintro e w2 ⟨rfl, hb2⟩
  go_wp2_with fail
  go_ret
  exact ⟨rfl, hb1.trans (hb2.mono hb1.size)⟩

theorem mname_none (id : Nat) (what : List UInt8) (page : Int) (w : World) (hi : id < 18446744073709551616) (hL : Ld w) (h1 : ¬ sortW what) (h2 : what ≠ [112]) :
    Calls Tryz.prog 57 #[.int .u64 (id : Int), .string (Bstr what), .int .i64 page] w fun e w' => e = .returned (.string ⟨#[]⟩) ∧ Below w.heap.size w w' := by
  have a1 : ∀ u, (Op.stringOp .add ⟨#[98, 47]⟩ (Bstr (digs 16 id 16))).run Tryz.prog u = .ok (.string (Bstr ([98, 47] ++ digs 16 id 16))) u := addStr' [98, 47] (digs 16 id 16) ([98, 47] ++ digs 16 id 16) rfl (by simp [digs_length])
  have a2 : ∀ u, (Op.stringOp .add (Bstr ([98, 47] ++ digs 16 id 16)) ⟨#[47]⟩).run Tryz.prog u = .ok (.string (Bstr (nmHead id))) u := addStr' ([98, 47] ++ digs 16 id 16) [47] (nmHead id) rfl (by rw [nmHead_length]; omega)
  have n1 : ((Bstr what).toList == [109]) = false := by rw [BSlist, beq_eq_false_iff_ne]; exact fun e => h1 (.inl e)
  have n2 : ((Bstr what).toList == [105]) = false := by rw [BSlist, beq_eq_false_iff_ne]; exact fun e => h1 (.inr (.inl e))
  have n3 : ((Bstr what).toList == [102]) = false := by rw [BSlist, beq_eq_false_iff_ne]; exact fun e => h1 (.inr (.inr (.inl e)))
  have n4 : ((Bstr what).toList == [120]) = false := by rw [BSlist, beq_eq_false_iff_ne]; exact fun e => h1 (.inr (.inr (.inr e)))
  have n5 : ((Bstr what).toList == [112]) = false := by rw [BSlist, beq_eq_false_iff_ne]; exact h2
  have hC := dig16_any id w hi hL
  generalize nmHead id = k2 at *
  generalize [98, 47] ++ digs 16 id 16 = k1 at *
  generalize digs 16 id 16 = k0 at *
  clear hi hL h1 h2
  go_enter Tryz.func57, Tryz.ntmps57
  go_wp2_with fail
  refine hC.mono ?_
  rintro e w1 ⟨rfl, hb1⟩
  go_wp2_with fail
  go_ret
  exact ⟨rfl, hb1⟩

theorem mname_any (id : Nat) (what : List UInt8) (page : Int) (w : World) (hi : id < 18446744073709551616) (hL : Ld w) :
    Calls Tryz.prog 57 #[.int .u64 (id : Int), .string (Bstr what), .int .i64 page] w fun e w' => e = .returned (.string (Bstr (nmOf id what page))) ∧ Below w.heap.size w w' := by
  by_cases hs : sortW what
  · rw [nmOf_sort hs]
    rcases hs with rfl | rfl | rfl | rfl
    · exact mname_m id page w hi hL
    · exact mname_i id page w hi hL
    · exact mname_f id page w hi hL
    · exact mname_x id page w hi hL
  · by_cases hp : what = [112]
    · subst hp
      rw [nmOf_p]
      exact mname_p id page w hi hL
    · rw [nmOf_none hs hp]
      exact mname_none id what page w hi hL hs hp

def dg16 : ByteArray := ⟨#[48, 49, 50, 51, 52, 53, 54, 55, 56, 57, 97, 98, 99, 100, 101, 102]⟩

theorem dg16_cut (d : Nat) (h : d < 16) : dg16.extract d (d + 1) = Bstr [dchar d] := by
  have : ∀ k : Fin 16, dg16.extract k.val (k.val + 1) = Bstr [dchar k.val] := by decide
  exact this ⟨d, h⟩

theorem i64_nat (k : Nat) (h : k < 9223372036854775808) : IntKind.i64.wrap (k : Int) = (k : Int) := IntWalk.i64_in _ (by omega)

theorem Digs_step (b k n q d : Nat) (w : World) (hb : b = 16 ∨ b = 10) (hk : k + 1 ≤ 16) (hq : (n : Int) / (b : Int) = (q : Int)) (hd : (n : Int) % (b : Int) = (d : Int)) (hd16 : d < 16) (hn : n < 18446744073709551616)
    (hC : ∀ u, Calls Tryz.prog 67 #[.int .u64 (q : Int), .int .u64 (b : Int), .int .i64 (k : Int)] u fun e w' => e = .returned (.string (Bstr (digs b q k))) ∧ Below u.heap.size u w') :
    Calls Tryz.prog 67 #[.int .u64 (n : Int), .int .u64 (b : Int), .int .i64 ((k + 1 : Nat) : Int)] w fun e w' => e = .returned (.string (Bstr (digs b q k ++ [dchar d]))) ∧ Below w.heap.size w w' := by
  have HC := Lib.hid hC
  have hz : (((k + 1 : Nat) : Int) == 0) = false := beq_eq_false_iff_ne.2 (by omega)
  have hdw : IntKind.u64.wrap ((d : Int) + 1) = (d : Int) + 1 := by rw [IntKind.wrap_u64]; omega
  have hkw : IntKind.i64.wrap (k : Int) = (k : Int) := i64_nat k (by omega)
  have hd1 : (d : Int) + 1 ≤ 16 := by omega
  have hd2 : (d : Int) ≤ (d : Int) + 1 := by omega
  have hd3 : ((d : Int) + 1).toNat = d + 1 := by omega
  have hex : ({ data := #[48, 49, 50, 51, 52, 53, 54, 55, 56, 57, 97, 98, 99, 100, 101, 102] } : ByteArray).extract d (d + 1) = Bstr [dchar d] := dg16_cut d hd16
  have hadd := addStr' (digs b q k) [dchar d] _ rfl (by simp [digs_length]; omega)
  generalize digs b q k ++ [dchar d] = r at *
  generalize [dchar d] = c at *
  have hbz : ((b : Int) == 0) = false := beq_eq_false_iff_ne.2 (by rcases hb with rfl | rfl <;> omega)
  have hb0 : ¬ b = 0 := by rcases hb with rfl | rfl <;> omega
  have hqw := wrapU' q (by
    have : (n : Int) / b ≤ n := Int.ediv_le_self _ (by omega)
    omega)
  clear hC hb
  go_enter Tryz.func67, Tryz.ntmps67
  go_wp2_with fail
  refine wp_region_mix [(0, false), (1, false), (2, false), (3, false), (4, false), (5, false), (7, false), (8, false), (9, false), (10, false), (11, false), (6, true), (12, true), (13, true)] (fun u => Below w.heap.size w u) (by kernel_rfl) (by kernel_rfl) (by kernel_rfl) rfl (Below.refl _ _).drew ?_
  repeat
    (refine mix_read (o := ⟨_, _, _, _, _, _⟩) (v := ?_) rfl (by rfl) (fun w' hS => ?_) ?_
     rotate_left
     go_simp
     with_reducible rfl
     try simp only [Act.put, List.setIfInBounds_toArray, List.set_cons_zero, List.set_cons_succ])
  refine mix_step (o := ⟨_, _, _, _, _, _⟩) rfl (fun K hK => ?_)
  go_simp
  refine (HC.out _).mono ?_
  rintro e w2 ⟨rfl, hb2⟩
  have hb2' : Below w.heap.size w w2 := (Below.refl _ w).drew.trans hb2
  refine hK.out _ _ hb2' ?_
  clear hK K
  try simp only [Act.put, List.setIfInBounds_toArray, List.set_cons_zero, List.set_cons_succ]
  repeat
    (refine mix_step (o := ⟨_, _, _, _, _, _⟩) rfl (fun K hK => ?_)
     go_simp
     refine hK.out _ _ hb2' ?_
     clear hK K
     try simp only [Act.put, List.setIfInBounds_toArray, List.set_cons_zero, List.set_cons_succ])
  refine mix_done ?_
  go_wp2_with fail
  go_ret
  exact ⟨rfl, hb2'⟩

theorem Digs_any (b : Nat) (hb : b = 16 ∨ b = 10) (k : Nat) : ∀ (n : Nat) (w : World), k ≤ 16 → n < 18446744073709551616 →
    Calls Tryz.prog 67 #[.int .u64 (n : Int), .int .u64 (b : Int), .int .i64 (k : Int)] w fun e w' => e = .returned (.string (Bstr (digs b n k))) ∧ Below w.heap.size w w' := by
  induction k with
  | zero =>
    intro n w _ _
    go_enter Tryz.func67, Tryz.ntmps67
    go_wp2_with fail
    go_ret
    exact ⟨rfl, Below.refl _ _⟩
  | succ k ih =>
    intro n w hk hn
    have hd16 : n % b < 16 := by rcases hb with rfl | rfl <;> omega
    have hq : n / b ≤ n := Nat.div_le_self _ _
    exact Digs_step b k n (n / b) (n % b) w hb hk (by simp) (by simp) hd16 hn (fun u => ih (n / b) u (by omega) (by omega))

set_option maxHeartbeats 800000 in
theorem Name_m (id : Nat) (page : Int) (w : World) (hi : id < 18446744073709551616) :
    Calls Tryz.prog 48 #[.int .u64 (id : Int), .string ⟨#[109]⟩, .int .i64 page] w fun e w' => e = .returned (.string (Bstr (nmHead id ++ [109]))) ∧ Below w.heap.size w w' := by
  have a1 : ∀ u, (Op.stringOp .add ⟨#[98, 47]⟩ (Bstr (digs 16 id 16))).run Tryz.prog u = .ok (.string (Bstr ([98, 47] ++ digs 16 id 16))) u := addStr' [98, 47] (digs 16 id 16) ([98, 47] ++ digs 16 id 16) rfl (by simp [digs_length])
  have a2 : ∀ u, (Op.stringOp .add (Bstr ([98, 47] ++ digs 16 id 16)) ⟨#[47]⟩).run Tryz.prog u = .ok (.string (Bstr (nmHead id))) u := addStr' ([98, 47] ++ digs 16 id 16) [47] (nmHead id) rfl (by rw [nmHead_length]; omega)
  have a3 : ∀ u, (Op.stringOp .add (Bstr (nmHead id)) ⟨#[109]⟩).run Tryz.prog u = .ok (.string (Bstr (nmHead id ++ [109]))) u := addStr' (nmHead id) [109] (nmHead id ++ [109]) rfl (by simp [nmHead_length])
  have hC := Digs_any 16 (.inl rfl) 16 id w (by omega) hi
  generalize nmHead id ++ [109] = k3 at *
  generalize nmHead id = k2 at *
  generalize [98, 47] ++ digs 16 id 16 = k1 at *
  generalize digs 16 id 16 = k0 at *
  clear hi
  go_enter Tryz.func48, Tryz.ntmps48
  go_wp2_with fail
  refine hC.mono ?_
  rintro e w1 ⟨rfl, hb1⟩
  go_wp2_with fail
  go_ret
  exact ⟨rfl, hb1⟩

set_option maxHeartbeats 800000 in
theorem Name_i (id : Nat) (page : Int) (w : World) (hi : id < 18446744073709551616) :
    Calls Tryz.prog 48 #[.int .u64 (id : Int), .string ⟨#[105]⟩, .int .i64 page] w fun e w' => e = .returned (.string (Bstr (nmHead id ++ [105]))) ∧ Below w.heap.size w w' := by
  have a1 : ∀ u, (Op.stringOp .add ⟨#[98, 47]⟩ (Bstr (digs 16 id 16))).run Tryz.prog u = .ok (.string (Bstr ([98, 47] ++ digs 16 id 16))) u := addStr' [98, 47] (digs 16 id 16) ([98, 47] ++ digs 16 id 16) rfl (by simp [digs_length])
  have a2 : ∀ u, (Op.stringOp .add (Bstr ([98, 47] ++ digs 16 id 16)) ⟨#[47]⟩).run Tryz.prog u = .ok (.string (Bstr (nmHead id))) u := addStr' ([98, 47] ++ digs 16 id 16) [47] (nmHead id) rfl (by rw [nmHead_length]; omega)
  have a3 : ∀ u, (Op.stringOp .add (Bstr (nmHead id)) ⟨#[105]⟩).run Tryz.prog u = .ok (.string (Bstr (nmHead id ++ [105]))) u := addStr' (nmHead id) [105] (nmHead id ++ [105]) rfl (by simp [nmHead_length])
  have hC := Digs_any 16 (.inl rfl) 16 id w (by omega) hi
  generalize nmHead id ++ [105] = k3 at *
  generalize nmHead id = k2 at *
  generalize [98, 47] ++ digs 16 id 16 = k1 at *
  generalize digs 16 id 16 = k0 at *
  clear hi
  go_enter Tryz.func48, Tryz.ntmps48
  go_wp2_with fail
  refine hC.mono ?_
  rintro e w1 ⟨rfl, hb1⟩
  go_wp2_with fail
  go_ret
  exact ⟨rfl, hb1⟩

set_option maxHeartbeats 800000 in
theorem Name_f (id : Nat) (page : Int) (w : World) (hi : id < 18446744073709551616) :
    Calls Tryz.prog 48 #[.int .u64 (id : Int), .string ⟨#[102]⟩, .int .i64 page] w fun e w' => e = .returned (.string (Bstr (nmHead id ++ [102]))) ∧ Below w.heap.size w w' := by
  have a1 : ∀ u, (Op.stringOp .add ⟨#[98, 47]⟩ (Bstr (digs 16 id 16))).run Tryz.prog u = .ok (.string (Bstr ([98, 47] ++ digs 16 id 16))) u := addStr' [98, 47] (digs 16 id 16) ([98, 47] ++ digs 16 id 16) rfl (by simp [digs_length])
  have a2 : ∀ u, (Op.stringOp .add (Bstr ([98, 47] ++ digs 16 id 16)) ⟨#[47]⟩).run Tryz.prog u = .ok (.string (Bstr (nmHead id))) u := addStr' ([98, 47] ++ digs 16 id 16) [47] (nmHead id) rfl (by rw [nmHead_length]; omega)
  have a3 : ∀ u, (Op.stringOp .add (Bstr (nmHead id)) ⟨#[102]⟩).run Tryz.prog u = .ok (.string (Bstr (nmHead id ++ [102]))) u := addStr' (nmHead id) [102] (nmHead id ++ [102]) rfl (by simp [nmHead_length])
  have hC := Digs_any 16 (.inl rfl) 16 id w (by omega) hi
  generalize nmHead id ++ [102] = k3 at *
  generalize nmHead id = k2 at *
  generalize [98, 47] ++ digs 16 id 16 = k1 at *
  generalize digs 16 id 16 = k0 at *
  clear hi
  go_enter Tryz.func48, Tryz.ntmps48
  go_wp2_with fail
  refine hC.mono ?_
  rintro e w1 ⟨rfl, hb1⟩
  go_wp2_with fail
  go_ret
  exact ⟨rfl, hb1⟩

set_option maxHeartbeats 800000 in
theorem Name_x (id : Nat) (page : Int) (w : World) (hi : id < 18446744073709551616) :
    Calls Tryz.prog 48 #[.int .u64 (id : Int), .string ⟨#[120]⟩, .int .i64 page] w fun e w' => e = .returned (.string (Bstr (nmHead id ++ [120]))) ∧ Below w.heap.size w w' := by
  have a1 : ∀ u, (Op.stringOp .add ⟨#[98, 47]⟩ (Bstr (digs 16 id 16))).run Tryz.prog u = .ok (.string (Bstr ([98, 47] ++ digs 16 id 16))) u := addStr' [98, 47] (digs 16 id 16) ([98, 47] ++ digs 16 id 16) rfl (by simp [digs_length])
  have a2 : ∀ u, (Op.stringOp .add (Bstr ([98, 47] ++ digs 16 id 16)) ⟨#[47]⟩).run Tryz.prog u = .ok (.string (Bstr (nmHead id))) u := addStr' ([98, 47] ++ digs 16 id 16) [47] (nmHead id) rfl (by rw [nmHead_length]; omega)
  have a3 : ∀ u, (Op.stringOp .add (Bstr (nmHead id)) ⟨#[120]⟩).run Tryz.prog u = .ok (.string (Bstr (nmHead id ++ [120]))) u := addStr' (nmHead id) [120] (nmHead id ++ [120]) rfl (by simp [nmHead_length])
  have hC := Digs_any 16 (.inl rfl) 16 id w (by omega) hi
  generalize nmHead id ++ [120] = k3 at *
  generalize nmHead id = k2 at *
  generalize [98, 47] ++ digs 16 id 16 = k1 at *
  generalize digs 16 id 16 = k0 at *
  clear hi
  go_enter Tryz.func48, Tryz.ntmps48
  go_wp2_with fail
  refine hC.mono ?_
  rintro e w1 ⟨rfl, hb1⟩
  go_wp2_with fail
  go_ret
  exact ⟨rfl, hb1⟩

set_option maxHeartbeats 800000 in
theorem Name_p (id : Nat) (page : Int) (w : World) (hi : id < 18446744073709551616) (h0 : 0 ≤ page) (h1 : page ≤ 9223372036854775807) :
    Calls Tryz.prog 48 #[.int .u64 (id : Int), .string ⟨#[112]⟩, .int .i64 page] w fun e w' => e = .returned (.string (Bstr (nmHead id ++ [112] ++ digs 10 (pgN page) 3))) ∧ Below w.heap.size w w' := by
  have a1 : ∀ u, (Op.stringOp .add ⟨#[98, 47]⟩ (Bstr (digs 16 id 16))).run Tryz.prog u = .ok (.string (Bstr ([98, 47] ++ digs 16 id 16))) u := addStr' [98, 47] (digs 16 id 16) ([98, 47] ++ digs 16 id 16) rfl (by simp [digs_length])
  have a2 : ∀ u, (Op.stringOp .add (Bstr ([98, 47] ++ digs 16 id 16)) ⟨#[47]⟩).run Tryz.prog u = .ok (.string (Bstr (nmHead id))) u := addStr' ([98, 47] ++ digs 16 id 16) [47] (nmHead id) rfl (by rw [nmHead_length]; omega)
  have a3 : ∀ u, (Op.stringOp .add (Bstr (nmHead id)) ⟨#[112]⟩).run Tryz.prog u = .ok (.string (Bstr (nmHead id ++ [112]))) u := addStr' (nmHead id) [112] (nmHead id ++ [112]) rfl (by simp [nmHead_length])
  have a4 : ∀ u, (Op.stringOp .add (Bstr (nmHead id ++ [112])) (Bstr (digs 10 (pgN page) 3))).run Tryz.prog u = .ok (.string (Bstr (nmHead id ++ [112] ++ digs 10 (pgN page) 3))) u := addStr' (nmHead id ++ [112]) (digs 10 (pgN page) 3) _ rfl (by simp [nmHead_length, digs_length])
  have hn : page % 1000 = ((pgN page : Nat) : Int) := by unfold pgN; omega
  have hlt := pgN_lt page
  have hwr := wrapU' (pgN page) (by omega)
  have hC := Digs_any 16 (.inl rfl) 16 id w (by omega) hi
  have hD := fun u => Digs_any 10 (.inr rfl) 3 (pgN page) u (by omega) (by omega)
  obtain ⟨t, rfl⟩ := nat_of (n := page) h0
  generalize nmHead id ++ [112] ++ digs 10 (pgN (t : Int)) 3 = k4 at *
  generalize nmHead id ++ [112] = k3 at *
  generalize nmHead id = k2 at *
  generalize [98, 47] ++ digs 16 id 16 = k1 at *
  generalize digs 16 id 16 = k0 at *
  generalize digs 10 (pgN (t : Int)) 3 = kd at *
  generalize pgN (t : Int) = n at *
  clear hi h0
  go_enter Tryz.func48, Tryz.ntmps48
  go_wp2_with fail
  refine hC.mono ?_
  rintro e w1 ⟨rfl, hb1⟩
  go_wp2_with fail
  refine (hD _).mono ?_
  rintro e w2 ⟨rfl, hb2⟩
  go_wp2_with fail
  go_ret
  exact ⟨rfl, hb1.trans (hb2.mono hb1.size)⟩

set_option maxHeartbeats 800000 in
theorem Name_neg (id : Nat) (page : Int) (w : World) (hi : id < 18446744073709551616) (h0 : page < 0) :
    Calls Tryz.prog 48 #[.int .u64 (id : Int), .string ⟨#[112]⟩, .int .i64 page] w fun e w' => e = .returned (.string (Bstr (nmHead id ++ [112] ++ digs 10 (pgN page) 3))) ∧ Below w.heap.size w w' := by
  have hp : pgN page = 0 := by unfold pgN; omega
  rw [hp]
  have a1 : ∀ u, (Op.stringOp .add ⟨#[98, 47]⟩ (Bstr (digs 16 id 16))).run Tryz.prog u = .ok (.string (Bstr ([98, 47] ++ digs 16 id 16))) u := addStr' [98, 47] (digs 16 id 16) ([98, 47] ++ digs 16 id 16) rfl (by simp [digs_length])
  have a2 : ∀ u, (Op.stringOp .add (Bstr ([98, 47] ++ digs 16 id 16)) ⟨#[47]⟩).run Tryz.prog u = .ok (.string (Bstr (nmHead id))) u := addStr' ([98, 47] ++ digs 16 id 16) [47] (nmHead id) rfl (by rw [nmHead_length]; omega)
  have a3 : ∀ u, (Op.stringOp .add (Bstr (nmHead id)) ⟨#[112]⟩).run Tryz.prog u = .ok (.string (Bstr (nmHead id ++ [112]))) u := addStr' (nmHead id) [112] (nmHead id ++ [112]) rfl (by simp [nmHead_length])
  have a4 : ∀ u, (Op.stringOp .add (Bstr (nmHead id ++ [112])) (Bstr (digs 10 0 3))).run Tryz.prog u = .ok (.string (Bstr (nmHead id ++ [112] ++ digs 10 0 3))) u := addStr' (nmHead id ++ [112]) (digs 10 0 3) _ rfl (by simp [nmHead_length, digs_length])
  have hC := Digs_any 16 (.inl rfl) 16 id w (by omega) hi
  have hD := fun u => Digs_any 10 (.inr rfl) 3 0 u (by omega) (by omega)
  generalize nmHead id ++ [112] ++ digs 10 0 3 = k4 at *
  generalize nmHead id ++ [112] = k3 at *
  generalize nmHead id = k2 at *
  generalize [98, 47] ++ digs 16 id 16 = k1 at *
  generalize digs 16 id 16 = k0 at *
  generalize digs 10 0 3 = kd at *
  clear hi hp
  go_enter Tryz.func48, Tryz.ntmps48
  go_wp2_with fail
  refine hC.mono ?_
  rintro e w1 ⟨rfl, hb1⟩
  go_wp2_with fail
  refine (hD _).mono ?_
  rintro e w2 ⟨rfl, hb2⟩
  go_wp2_with fail
  go_ret
  exact ⟨rfl, hb1.trans (hb2.mono hb1.size)⟩

theorem Name_none (id : Nat) (what : List UInt8) (page : Int) (w : World) (hi : id < 18446744073709551616) (h1 : ¬ sortW what) (h2 : what ≠ [112]) :
    Calls Tryz.prog 48 #[.int .u64 (id : Int), .string (Bstr what), .int .i64 page] w fun e w' => e = .returned (.string ⟨#[]⟩) ∧ Below w.heap.size w w' := by
  have a1 : ∀ u, (Op.stringOp .add ⟨#[98, 47]⟩ (Bstr (digs 16 id 16))).run Tryz.prog u = .ok (.string (Bstr ([98, 47] ++ digs 16 id 16))) u := addStr' [98, 47] (digs 16 id 16) ([98, 47] ++ digs 16 id 16) rfl (by simp [digs_length])
  have a2 : ∀ u, (Op.stringOp .add (Bstr ([98, 47] ++ digs 16 id 16)) ⟨#[47]⟩).run Tryz.prog u = .ok (.string (Bstr (nmHead id))) u := addStr' ([98, 47] ++ digs 16 id 16) [47] (nmHead id) rfl (by rw [nmHead_length]; omega)
  have n1 : ((Bstr what).toList == [109]) = false := by rw [BSlist, beq_eq_false_iff_ne]; exact fun e => h1 (.inl e)
  have n2 : ((Bstr what).toList == [105]) = false := by rw [BSlist, beq_eq_false_iff_ne]; exact fun e => h1 (.inr (.inl e))
  have n3 : ((Bstr what).toList == [102]) = false := by rw [BSlist, beq_eq_false_iff_ne]; exact fun e => h1 (.inr (.inr (.inl e)))
  have n4 : ((Bstr what).toList == [120]) = false := by rw [BSlist, beq_eq_false_iff_ne]; exact fun e => h1 (.inr (.inr (.inr e)))
  have n5 : ((Bstr what).toList == [112]) = false := by rw [BSlist, beq_eq_false_iff_ne]; exact h2
  have hC := Digs_any 16 (.inl rfl) 16 id w (by omega) hi
  generalize nmHead id = k2 at *
  generalize [98, 47] ++ digs 16 id 16 = k1 at *
  generalize digs 16 id 16 = k0 at *
  clear hi h1 h2
  go_enter Tryz.func48, Tryz.ntmps48
  go_wp2_with fail
  refine hC.mono ?_
  rintro e w1 ⟨rfl, hb1⟩
  go_wp2_with fail
  go_ret
  exact ⟨rfl, hb1⟩

theorem Name_any (id : Nat) (what : List UInt8) (page : Int) (w : World) (hi : id < 18446744073709551616) (hp1 : page ≤ 9223372036854775807) :
    Calls Tryz.prog 48 #[.int .u64 (id : Int), .string (Bstr what), .int .i64 page] w fun e w' => e = .returned (.string (Bstr (nmOf id what page))) ∧ Below w.heap.size w w' := by
  by_cases hs : sortW what
  · rw [nmOf_sort hs]
    rcases hs with rfl | rfl | rfl | rfl
    · exact Name_m id page w hi
    · exact Name_i id page w hi
    · exact Name_f id page w hi
    · exact Name_x id page w hi
  · by_cases hp : what = [112]
    · subst hp
      rw [nmOf_p]
      by_cases h0 : 0 ≤ page
      · exact Name_p id page w hi h0 hp1
      · exact Name_neg id page w hi (by omega)
    · rw [nmOf_none hs hp]
      exact Name_none id what page w hi hs hp

theorem dval_big (c : UInt8) (h1 : 97 ≤ c.toNat) (h2 : c.toNat ≤ 102) : dval c = c.toNat - 87 := if_pos ⟨h1, h2⟩

theorem dval_other (c : UInt8) (h : ¬ (97 ≤ c.toNat ∧ c.toNat ≤ 102)) : dval c = c.toNat % 16 := if_neg h

set_option maxHeartbeats 800000 in
theorem value_any (s : List UInt8) (w : World) (hl : s.length ≤ 16) :
    Calls Tryz.prog 66 #[.string (Bstr s)] w fun e w' => e = .returned (.int .u64 (valD 16 s : Int)) ∧ Below w.heap.size w w' := by
  have hsz := Bstr_size s
  go_enter Tryz.func66, Tryz.ntmps66
  go_wp2_with fail
  go_loopg [3, 4, 5] s.length (fun gk nv iv _ wr => ∃ (k : Nat), k + gk = s.length ∧ nv = .int .u64 ((valD 16 (s.take k) : Nat) : Int) ∧ iv = .int .i64 (k : Int) ∧ Hid (Below w.heap.size w wr))
  case atStart => exact ⟨0, by omega, by simp [valD], by simp, Lib.hid (Below.refl _ _)⟩
  case round =>
    obtain ⟨k, hk, rfl, rfl, HM⟩ := hrel
    by_cases hkl : k < s.length
    · obtain ⟨gk1, hgk1⟩ : ∃ x, gk = x + 1 := ⟨gk - 1, by omega⟩
      have HV : Hid (valD 16 (s.take (k + 1)) = 16 * valD 16 (s.take k) + dval s[k]) := Lib.hid (by rw [List.take_succ_eq_append_getElem hkl, valD_snoc])
      have hv : valD 16 (s.take k) < 1152921504606846976 := by
        have h1 := valD_lt (s.take k)
        rw [List.length_take, Nat.min_eq_left (by omega)] at h1
        exact Nat.lt_of_lt_of_le h1 (Nat.le_trans (Nat.pow_le_pow_right (by omega) (show k ≤ 15 by omega)) (by decide))
      generalize valD 16 (s.take k) = v at *
      obtain ⟨c, hcc⟩ : ∃ c : Nat, ((Bstr s)[k]'(by rw [hsz]; exact hkl)).toNat = c := ⟨_, rfl⟩
      have hc2 : s[k].toNat = c := hcc
      have hc : c < 256 := by have := s[k].toNat_lt; omega
      have HN : Hid (Below w.heap.size w wr) := HM
      by_cases h1 : 97 ≤ c
      · by_cases h2 : c ≤ 102
        · have HD : Hid (valD 16 (s.take (k + 1)) = 16 * v + (c - 87)) := Lib.hid (by rw [HV.out, dval_big _ (by omega) (by omega), hc2])
          clear HV hc2
          go_wp2_with fail
          go_roundg gk1
          case measure => omega
          case rel =>
            refine ⟨k + 1, by omega, ?_, by go_num, Lib.hid HN.out⟩
            rw [HD.out]
            congr 1
            rw [IntKind.wrap_u64, IntKind.wrap_u64]
            omega
        · have HD : Hid (valD 16 (s.take (k + 1)) = 16 * v + c % 16) := Lib.hid (by rw [HV.out, dval_other _ (by omega), hc2])
          clear HV hc2
          go_wp2_with fail
          go_roundg gk1
          case measure => omega
          case rel =>
            refine ⟨k + 1, by omega, ?_, by go_num, Lib.hid HN.out⟩
            rw [HD.out]
            congr 1
      · have HD : Hid (valD 16 (s.take (k + 1)) = 16 * v + c % 16) := Lib.hid (by rw [HV.out, dval_other _ (by omega), hc2])
        clear HV hc2
        go_wp2_with fail
        go_roundg gk1
        case measure => omega
        case rel =>
          refine ⟨k + 1, by omega, ?_, by go_num, Lib.hid HN.out⟩
          rw [HD.out]
          congr 1
    · have hkn : k = s.length := by omega
      subst hkn
      have HT : Hid (s.take s.length = s) := Lib.hid (List.take_length)
      go_wp2_with fail
      go_ret
      rw [HT.out]
      exact ⟨rfl, HM.out⟩

theorem Bstr_cut (s : List UInt8) (a b : Nat) : (Bstr s).extract a b = Bstr ((s.drop a).take (b - a)) := by
  apply ByteArray.ext
  apply Array.ext'
  simp [Bstr]

theorem results_tmp4 {fn : Func} {t u v x : Tmp} (h : fn.results = #[.tmp t, .tmp u, .tmp v, .tmp x]) (tmps : Array Value) (P : Program) (w : World) :
    (results fn tmps).run P w = .ok (.tuple #[tmps.getD t undef, tmps.getD u undef, tmps.getD v undef, tmps.getD x undef]) w := by
  simp [results, h]

theorem strNe (a b : List UInt8) (h : a ≠ b) : (!(Bstr a).toList == (Bstr b).toList) = true := by
  rw [BSlist, BSlist, Bool.not_eq_true', beq_eq_false_iff_ne]
  exact h

theorem strEq (a b : List UInt8) (h : a = b) : (!(Bstr a).toList == (Bstr b).toList) = false := by
  rw [h]
  simp

theorem Parse_len (s : List UInt8) (w : World) (h1 : s.length ≠ 20) (h2 : s.length ≠ 23) :
    Calls Tryz.prog 47 #[.string (Bstr s)] w fun e w' => e = .returned (.tuple #[.int .u64 0, .string ⟨#[]⟩, .int .i64 0, .bool false]) ∧ Below w.heap.size w w' := by
  have hsz := Bstr_size s
  have e1 : ((s.length : Int) != 20) = true := by
    have : ¬ (s.length : Int) = 20 := by omega
    simp [this]
  have e2 : ((s.length : Int) != 23) = true := by
    have : ¬ (s.length : Int) = 23 := by omega
    simp [this]
  clear h1 h2
  go_enter Tryz.func47, Tryz.ntmps47
  go_wp2_with fail
  try simp only [Exit.inBlock, Exit.then]
  refine bodyPost_ret (results_tmp4 rfl _ _ _) rfl ?_
  exact ⟨rfl, Below.refl _ _⟩

set_option maxHeartbeats 1600000 in
theorem Parse_20 (s : List UInt8) (w : World) (h : s.length = 20) :
    Calls Tryz.prog 47 #[.string (Bstr s)] w fun e w' => e = .returned (if (s.drop 19).take 1 = [112] ∨ nmOf (valD 16 ((s.drop 2).take 16)) ((s.drop 19).take 1) 0 ≠ s then .tuple #[.int .u64 0, .string ⟨#[]⟩, .int .i64 0, .bool false] else .tuple #[.int .u64 (valD 16 ((s.drop 2).take 16) : Int), .string (Bstr ((s.drop 19).take 1)), .int .i64 0, .bool true]) ∧ Below w.heap.size w w' := by
  have hsz : (Bstr s).size = 20 := by rw [Bstr_size, h]
  have x1 : (Bstr s).extract 2 18 = Bstr ((s.drop 2).take 16) := Bstr_cut s 2 18
  have x2 : (Bstr s).extract 19 20 = Bstr ((s.drop 19).take 1) := Bstr_cut s 19 20
  have hlen : ((s.drop 2).take 16).length ≤ 16 := by rw [List.length_take]; omega
  have hid : valD 16 ((s.drop 2).take 16) < 18446744073709551616 := Nat.lt_of_lt_of_le (valD_lt _) (Nat.le_trans (Nat.pow_le_pow_right (by omega) hlen) (by decide))
  have hV := fun u => value_any ((s.drop 2).take 16) u hlen
  generalize (s.drop 2).take 16 = idl at *
  generalize (s.drop 19).take 1 = wh at *
  generalize valD 16 idl = id at *
  have hN := fun u => Name_any id wh 0 u hid (by omega)
  clear hlen h
  by_cases hp : wh = [112]
  · rw [if_pos (.inl hp)]
    have hpb : ((Bstr wh).toList == [112]) = true := by rw [BSlist, hp]; rfl
    clear hN hp
    go_enter Tryz.func47, Tryz.ntmps47
    go_wp2_with fail
    refine (hV _).mono ?_
    rintro e w1 ⟨rfl, hb1⟩
    go_wp2_with fail
    try simp only [Exit.inBlock, Exit.then]
    refine bodyPost_ret (results_tmp4 rfl _ _ _) rfl ?_
    exact ⟨rfl, hb1⟩
  · have hpb : ((Bstr wh).toList == [112]) = false := by rw [BSlist, beq_eq_false_iff_ne]; exact hp
    by_cases hn : nmOf id wh 0 = s
    · have hd := strEq _ _ hn
      rw [if_neg (fun h => h.elim hp fun h => h hn)]
      clear hn hp
      generalize nmOf id wh 0 = nm at *
      go_enter Tryz.func47, Tryz.ntmps47
      go_wp2_with fail
      refine (hV _).mono ?_
      rintro e w1 ⟨rfl, hb1⟩
      go_wp2_with fail
      refine (hN _).mono ?_
      rintro e w2 ⟨rfl, hb2⟩
      go_wp2_with fail
      try simp only [Exit.inBlock, Exit.then]
      refine bodyPost_ret (results_tmp4 rfl _ _ _) rfl ?_
      exact ⟨rfl, hb1.trans (hb2.mono hb1.size)⟩
    · have hd := strNe _ _ hn
      rw [if_pos (.inr hn)]
      clear hn hp
      generalize nmOf id wh 0 = nm at *
      go_enter Tryz.func47, Tryz.ntmps47
      go_wp2_with fail
      refine (hV _).mono ?_
      rintro e w1 ⟨rfl, hb1⟩
      go_wp2_with fail
      refine (hN _).mono ?_
      rintro e w2 ⟨rfl, hb2⟩
      go_wp2_with fail
      try simp only [Exit.inBlock, Exit.then]
      refine bodyPost_ret (results_tmp4 rfl _ _ _) rfl ?_
      exact ⟨rfl, hb1.trans (hb2.mono hb1.size)⟩

def prsPg (s : List UInt8) : Nat := 100 * ((s.getD 20 0).toNat % 16) + 10 * ((s.getD 21 0).toNat % 16) + (s.getD 22 0).toNat % 16

set_option maxHeartbeats 1600000 in
theorem Parse_23 (s : List UInt8) (w : World) (h : s.length = 23) :
    Calls Tryz.prog 47 #[.string (Bstr s)] w fun e w' => e = .returned (if nmOf (valD 16 ((s.drop 2).take 16)) ((s.drop 19).take 1) (prsPg s) ≠ s then .tuple #[.int .u64 0, .string ⟨#[]⟩, .int .i64 0, .bool false] else .tuple #[.int .u64 (valD 16 ((s.drop 2).take 16) : Int), .string (Bstr ((s.drop 19).take 1)), .int .i64 (prsPg s : Int), .bool true]) ∧ Below w.heap.size w w' := by
  have hsz : (Bstr s).size = 23 := by rw [Bstr_size, h]
  have x1 : (Bstr s).extract 2 18 = Bstr ((s.drop 2).take 16) := Bstr_cut s 2 18
  have x2 : (Bstr s).extract 19 20 = Bstr ((s.drop 19).take 1) := Bstr_cut s 19 20
  have hlen : ((s.drop 2).take 16).length ≤ 16 := by rw [List.length_take]; omega
  have hid : valD 16 ((s.drop 2).take 16) < 18446744073709551616 := Nat.lt_of_lt_of_le (valD_lt _) (Nat.le_trans (Nat.pow_le_pow_right (by omega) hlen) (by decide))
  have hV := fun u => value_any ((s.drop 2).take 16) u hlen
  generalize (s.drop 2).take 16 = idl at *
  generalize (s.drop 19).take 1 = wh at *
  generalize valD 16 idl = id at *
  obtain ⟨c0, hc0⟩ : ∃ c : Nat, ((Bstr s)[20]'(by rw [hsz]; omega)).toNat = c := ⟨_, rfl⟩
  obtain ⟨c1, hc1⟩ : ∃ c : Nat, ((Bstr s)[21]'(by rw [hsz]; omega)).toNat = c := ⟨_, rfl⟩
  obtain ⟨c2, hc2⟩ : ∃ c : Nat, ((Bstr s)[22]'(by rw [hsz]; omega)).toNat = c := ⟨_, rfl⟩
  have key : ∀ (k : Nat) (hk : k < s.length) (hk' : k < (Bstr s).size), (s.getD k 0).toNat = ((Bstr s)[k]'hk').toNat := fun k hk hk' => by
    rw [List.getD_eq_getElem?_getD, List.getElem?_eq_getElem hk]
    rfl
  have hpg : prsPg s = 100 * (c0 % 16) + 10 * (c1 % 16) + c2 % 16 := by
    unfold prsPg
    rw [key 20 (by omega) (by rw [hsz]; omega), key 21 (by omega) (by rw [hsz]; omega), key 22 (by omega) (by rw [hsz]; omega), hc0, hc1, hc2]
  have hN := fun u => Name_any id wh (prsPg s) u hid (by rw [hpg]; omega)
  have hpi : 100 * ((c0 : Int) % 16) + 10 * ((c1 : Int) % 16) + (c2 : Int) % 16 = (prsPg s : Int) := by rw [hpg]; omega
  have b0 : c0 < 256 := by rw [← hc0]; exact UInt8.toNat_lt _
  have b1 : c1 < 256 := by rw [← hc1]; exact UInt8.toNat_lt _
  have b2 : c2 < 256 := by rw [← hc2]; exact UInt8.toNat_lt _
  clear hpg key hlen h
  generalize prsPg s = pg at *
  by_cases hn : nmOf id wh pg = s
  · have hd := strEq _ _ hn
    rw [if_neg (fun h => h hn)]
    clear hn
    generalize nmOf id wh pg = nm at *
    go_enter Tryz.func47, Tryz.ntmps47
    go_wp2_with fail
    refine (hV _).mono ?_
    rintro e w1 ⟨rfl, hb1⟩
    go_wp2_with fail
    go_quiet (fail)
    go_wp2_with fail
    all_goals
      refine (hN _).mono ?_
      rintro e w2 ⟨rfl, hb2⟩
      go_wp2_with fail
      try simp only [Exit.inBlock, Exit.then]
      refine bodyPost_ret (results_tmp4 rfl _ _ _) rfl ?_
      exact ⟨rfl, (below_drewN hb1 _).trans (hb2.mono hb1.size)⟩
  · have hd := strNe _ _ hn
    rw [if_pos hn]
    clear hn
    generalize nmOf id wh pg = nm at *
    go_enter Tryz.func47, Tryz.ntmps47
    go_wp2_with fail
    refine (hV _).mono ?_
    rintro e w1 ⟨rfl, hb1⟩
    go_wp2_with fail
    go_quiet (fail)
    go_wp2_with fail
    all_goals
      refine (hN _).mono ?_
      rintro e w2 ⟨rfl, hb2⟩
      go_wp2_with fail
      try simp only [Exit.inBlock, Exit.then]
      refine bodyPost_ret (results_tmp4 rfl _ _ _) rfl ?_
      exact ⟨rfl, (below_drewN hb1 _).trans (hb2.mono hb1.size)⟩

theorem ParseP_none {s : List UInt8} (h : ∀ i w k, ¬ NamedAs s i w k) : ParseP s 0 [] 0 false := .inr ⟨rfl, rfl, rfl, rfl, h⟩

theorem parse_20 (s : List UInt8) (h : s.length = 20) :
    if (s.drop 19).take 1 = [112] ∨ nmOf (valD 16 ((s.drop 2).take 16)) ((s.drop 19).take 1) 0 ≠ s then ParseP s 0 [] 0 false else ParseP s (valD 16 ((s.drop 2).take 16)) ((s.drop 19).take 1) 0 true := by
  have hid : valD 16 ((s.drop 2).take 16) < 18446744073709551616 := Nat.lt_of_lt_of_le (valD_lt _) (Nat.le_trans (Nat.pow_le_pow_right (by omega) (by rw [List.length_take]; omega : ((s.drop 2).take 16).length ≤ 16)) (by decide))
  split
  · rename_i hc
    refine ParseP_none fun i w k hN => ?_
    obtain ⟨h1, h2, h3, h4⟩ := hN.parts
    rcases hN.kind with rfl | ⟨hw, rfl⟩
    · have := (h3 rfl).2
      omega
    · rcases hc with hc | hc
      · rw [h2] at hc
        exact sortW_p (hc ▸ hw)
      · refine hc ?_
        rw [h1, h2, valD_digs 16 (by omega) (by omega), Nat.mod_eq_of_lt (by have := hN.idlt; omega : i < 16 ^ 16)]
        exact hN.eq.symm
  · rename_i hc
    rw [not_or] at hc
    obtain ⟨hp, hn⟩ := hc
    have hn' := Classical.not_not.1 hn
    refine .inl ⟨rfl, 0, rfl, hid, by omega, .inr ⟨?_, rfl⟩, hn'.symm⟩
    by_cases hw : sortW ((s.drop 19).take 1)
    · exact hw
    · rw [nmOf_none hw hp] at hn'
      rw [← hn'] at h
      cases h

theorem parse_23 (s : List UInt8) (h : s.length = 23) :
    if nmOf (valD 16 ((s.drop 2).take 16)) ((s.drop 19).take 1) (prsPg s) ≠ s then ParseP s 0 [] 0 false else ParseP s (valD 16 ((s.drop 2).take 16)) ((s.drop 19).take 1) (prsPg s) true := by
  have hid : valD 16 ((s.drop 2).take 16) < 18446744073709551616 := Nat.lt_of_lt_of_le (valD_lt _) (Nat.le_trans (Nat.pow_le_pow_right (by omega) (by rw [List.length_take]; omega : ((s.drop 2).take 16).length ≤ 16)) (by decide))
  -- the last three, if they are digits
  have key : ∀ n : Nat, n < 1000 → s.drop 20 = digs 10 n 3 → prsPg s = n := fun n hn hd => by
    have h0 : s[20]? = (digs 10 n 3)[0]? := by rw [← hd, List.getElem?_drop]
    have h1 : s[21]? = (digs 10 n 3)[1]? := by rw [← hd, List.getElem?_drop]
    have h2 : s[22]? = (digs 10 n 3)[2]? := by rw [← hd, List.getElem?_drop]
    simp only [digs, List.nil_append, List.cons_append] at h0 h1 h2
    have e : ∀ d, d < 10 → (dchar d).toNat % 16 = d := fun d hd => by
      rw [dchar_toNat d (by omega), if_pos hd]
      omega
    unfold prsPg
    rw [List.getD_eq_getElem?_getD, List.getD_eq_getElem?_getD, List.getD_eq_getElem?_getD, h0, h1, h2]
    simp only [List.getElem?_cons_zero, List.getElem?_cons_succ, Option.getD_some]
    rw [e _ (Nat.mod_lt _ (by omega)), e _ (Nat.mod_lt _ (by omega)), e _ (Nat.mod_lt _ (by omega))]
    omega
  split
  · rename_i hc
    refine ParseP_none fun i w k hN => ?_
    obtain ⟨h1, h2, h3, h4⟩ := hN.parts
    rcases hN.kind with rfl | ⟨hw, rfl⟩
    · refine hc ?_
      rw [h1, h2, valD_digs 16 (by omega) (by omega), Nat.mod_eq_of_lt (by have := hN.idlt; omega : i < 16 ^ 16), key k hN.nlt (h3 rfl).1]
      exact hN.eq.symm
    · have := h4 hw
      omega
  · rename_i hn
    have hn' := Classical.not_not.1 hn
    have hp : (s.drop 19).take 1 = [112] := by
      by_cases hp : (s.drop 19).take 1 = [112]
      · exact hp
      · exfalso
        have hl := congrArg List.length hn'
        by_cases hw : sortW ((s.drop 19).take 1)
        · rw [nmOf_sort hw, List.length_append, nmHead_length, sortW_len hw] at hl
          omega
        · rw [nmOf_none hw hp] at hl
          simp at hl
          omega
    have hlt : prsPg s < 1000 := by
      have hd := hn'
      rw [hp, nmOf_p] at hd
      have h20 : s.drop 20 = digs 10 (pgN (prsPg s)) 3 := by
        have hl : (nmHead (valD 16 ((s.drop 2).take 16)) ++ [112]).length = 20 := by rw [List.length_append, nmHead_length]; rfl
        rw [← hd, List.drop_append_of_le_length (by rw [hl]; omega), List.drop_eq_nil_of_le (by rw [hl]; omega)]
        rw [hd]
        rfl
      have := key _ (pgN_lt _) h20
      rw [this]
      exact pgN_lt _
    exact .inl ⟨rfl, prsPg s, rfl, hid, hlt, .inl hp, hn'.symm⟩

theorem DParse_any (s : List UInt8) (w : World) :
    Calls Tryz.prog 47 #[.string (Bstr s)] w fun e w' => ∃ id what n is, e = .returned (.tuple #[.int .u64 (id : Nat), .string (Bstr what), .int .i64 n, .bool is]) ∧ ParseP s id what n is ∧ Below w.heap.size w w' := by
  by_cases h20 : s.length = 20
  · refine (Parse_20 s w h20).mono fun e w' ⟨he, hb⟩ => ?_
    have hp := parse_20 s h20
    split at he
    · rename_i hc
      rw [if_pos hc] at hp
      exact ⟨0, [], 0, false, he, hp, hb⟩
    · rename_i hc
      rw [if_neg hc] at hp
      exact ⟨_, _, 0, true, he, hp, hb⟩
  · by_cases h23 : s.length = 23
    · refine (Parse_23 s w h23).mono fun e w' ⟨he, hb⟩ => ?_
      have hp := parse_23 s h23
      split at he
      · rename_i hc
        rw [if_pos hc] at hp
        exact ⟨0, [], 0, false, he, hp, hb⟩
      · rename_i hc
        rw [if_neg hc] at hp
        exact ⟨_, _, _, true, he, hp, hb⟩
    · refine (Parse_len s w h20 h23).mono fun e w' ⟨he, hb⟩ => ⟨0, [], 0, false, he, ParseP_none fun i wh k hN => ?_, hb⟩
      obtain ⟨h1, h2, h3, h4⟩ := hN.parts
      rcases hN.kind with rfl | ⟨hw, rfl⟩
      · exact h23 (h3 rfl).2
      · exact h20 (h4 hw)

end Go.Proofs.YtgafidnbmoomiaaGreatDoor
