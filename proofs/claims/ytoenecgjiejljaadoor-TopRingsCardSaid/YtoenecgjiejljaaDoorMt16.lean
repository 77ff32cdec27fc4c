/-
  Texts merged into one (Shr, Rc6): contracts of the functions of package lure, what is reckoned of games. Conditions: as each says.
-/
import Derived.Shelf.Strconv.Itoa3
import Derived.Shelf.Strings.Repeat
import Derived.Shelf.Strings.Count
import Derived.Shelf.Strings.Replace
import Derived.Shelf.Strings.LastIndex
import Derived.Test.YtoenecgjiejljaaDoorProg
import Derived.Test.YtoenecgjiejljaaDoorMt15
namespace Go.Proofs.YtoenecgjiejljaaDoor
open Go.Shelf
def Tryd.lays171_ren : Go.Shelf.Ren := ⟨fun | 171 => 60 | 243 => 110 | 246 => 148 | 283 => 189 | 284 => 190 | 285 => 191 | 286 => 192 | 129 => 163 | 317 => 207 | 318 => 208 | 319 => 209 | 320 => 210 | 337 => 220 | 338 => 221 | n => n, fun | 3 => 3 | 9 => 9 | 2 => 2 | 4 => 4 | 171 => 180 | 0 => 0 | 53 => 153 | 37 => 98 | 5 => 5 | 173 => 182 | 212 => 196 | 51 => 150 | 20 => 20 | 213 => 197 | 46 => 42 | 232 => 212 | 233 => 213 | n => n, fun | 17 => 3 | 18 => 6 | 19 => 7 | n => n⟩
theorem Tryd.lays171 : Go.Proofs.LaysM.n171 Tryd.prog Tryd.lays171_ren := {
  mixed := by kernel_rfl
  f129 := Tryd.func163.trans (congrArg some (by kernel_rfl))
  f171 := Tryd.func60.trans (congrArg some (by kernel_rfl))
  f243 := Tryd.func110.trans (congrArg some (by kernel_rfl))
  f246 := Tryd.func148.trans (congrArg some (by kernel_rfl))
  f283 := Tryd.func189.trans (congrArg some (by kernel_rfl))
  f284 := Tryd.func190.trans (congrArg some (by kernel_rfl))
  f285 := Tryd.func191.trans (congrArg some (by kernel_rfl))
  f286 := Tryd.func192.trans (congrArg some (by kernel_rfl))
  f317 := Tryd.func207.trans (congrArg some (by kernel_rfl))
  f318 := Tryd.func208.trans (congrArg some (by kernel_rfl))
  f319 := Tryd.func209.trans (congrArg some (by kernel_rfl))
  f320 := Tryd.func210.trans (congrArg some (by kernel_rfl))
  f337 := Tryd.func220.trans (congrArg some (by kernel_rfl))
  f338 := Tryd.func221.trans (congrArg some (by kernel_rfl))
  t0 := Tryd.underlying0
  a0 := Tryd.isAgg0
  z0 := Tryd.sizeOf0
  v0 := Tryd.zeroValue0
  t2 := Tryd.underlying2
  a2 := Tryd.isAgg2
  z2 := Tryd.sizeOf2
  v2 := Tryd.zeroValue2
  t3 := Tryd.underlying3
  a3 := Tryd.isAgg3
  z3 := Tryd.sizeOf3
  v3 := Tryd.zeroValue3
  t4 := Tryd.underlying4
  a4 := Tryd.isAgg4
  z4 := Tryd.sizeOf4
  v4 := Tryd.zeroValue4
  t5 := Tryd.underlying5
  a5 := Tryd.isAgg5
  z5 := Tryd.sizeOf5
  v5 := Tryd.zeroValue5
  t9 := Tryd.underlying9
  a9 := Tryd.isAgg9
  z9 := Tryd.sizeOf9
  v9 := Tryd.zeroValue9
  t20 := Tryd.underlying20
  a20 := Tryd.isAgg20
  z20 := Tryd.sizeOf20
  v20 := Tryd.zeroValue20
  t37 := Tryd.underlying98
  a37 := Tryd.isAgg98
  z37 := Tryd.sizeOf98
  v37 := Tryd.zeroValue98
  t46 := Tryd.underlying42
  a46 := Tryd.isAgg42
  z46 := Tryd.sizeOf42
  v46 := Tryd.zeroValue42
  t51 := Tryd.underlying150
  a51 := Tryd.isAgg150
  z51 := Tryd.sizeOf150
  v51 := Tryd.zeroValue150
  t53 := Tryd.underlying153
  a53 := Tryd.isAgg153
  z53 := Tryd.sizeOf153
  v53 := Tryd.zeroValue153
  t171 := Tryd.underlying180
  a171 := Tryd.isAgg180
  z171 := Tryd.sizeOf180
  v171 := Tryd.zeroValue180
  t173 := Tryd.underlying182
  a173 := Tryd.isAgg182
  z173 := Tryd.sizeOf182
  v173 := Tryd.zeroValue182
  t212 := Tryd.underlying196
  a212 := Tryd.isAgg196
  z212 := Tryd.sizeOf196
  v212 := Tryd.zeroValue196
  t213 := Tryd.underlying197
  a213 := Tryd.isAgg197
  z213 := Tryd.sizeOf197
  t232 := Tryd.underlying212
  a232 := Tryd.isAgg212
  z232 := Tryd.sizeOf212
  v232 := Tryd.zeroValue212
  t233 := Tryd.underlying213
  a233 := Tryd.isAgg213
  z233 := Tryd.sizeOf213
  v233 := Tryd.zeroValue213
  g17 := by kernel_rfl
  g18 := by kernel_rfl
  g19 := by kernel_rfl
  i0 := by kernel_rfl
  i2 := by kernel_rfl
  i3 := by kernel_rfl
  i4 := by kernel_rfl
  i5 := by kernel_rfl
  i9 := by kernel_rfl
  i20 := by kernel_rfl
  i37 := by kernel_rfl
  i46 := by kernel_rfl
  i51 := by kernel_rfl
  i53 := by kernel_rfl
  i171 := by kernel_rfl
  i173 := by kernel_rfl
  i212 := by kernel_rfl
  i232 := by kernel_rfl
  i233 := by kernel_rfl
  m17 := by kernel_rfl
  m18 := by kernel_rfl
  m19 := by kernel_rfl }
def Tryd.lays105_ren : Go.Shelf.Ren := ⟨fun | 105 => 61 | 212 => 111 | 99 => 112 | 165 => 113 | 166 => 88 | 170 => 114 | 169 => 92 | 263 => 149 | 264 => 150 | 206 => 151 | 240 => 131 | 241 => 152 | 276 => 179 | 277 => 193 | n => n, fun | 9 => 9 | 3 => 3 | 4 => 4 | 20 => 20 | 0 => 0 | 46 => 42 | 109 => 123 | 5 => 5 | 72 => 100 | 76 => 103 | 51 => 150 | 146 => 151 | 53 => 153 | 148 => 154 | 70 => 97 | 37 => 98 | 75 => 102 | 127 => 137 | 164 => 173 | 80 => 108 | n => n, fun | n => n⟩
theorem Tryd.lays105 : Go.Proofs.Lays.n105 Tryd.prog Tryd.lays105_ren := {
  mixed := by kernel_rfl
  f99 := Tryd.func112.trans (congrArg some (by kernel_rfl))
  f105 := Tryd.func61.trans (congrArg some (by kernel_rfl))
  f165 := Tryd.func113.trans (congrArg some (by kernel_rfl))
  f166 := Tryd.func88.trans (congrArg some (by kernel_rfl))
  f169 := Tryd.func92.trans (congrArg some (by kernel_rfl))
  f170 := Tryd.func114.trans (congrArg some (by kernel_rfl))
  f206 := Tryd.func151.trans (congrArg some (by kernel_rfl))
  f212 := Tryd.func111.trans (congrArg some (by kernel_rfl))
  f240 := Tryd.func131.trans (congrArg some (by kernel_rfl))
  f241 := Tryd.func152.trans (congrArg some (by kernel_rfl))
  f263 := Tryd.func149.trans (congrArg some (by kernel_rfl))
  f264 := Tryd.func150.trans (congrArg some (by kernel_rfl))
  f276 := Tryd.func179.trans (congrArg some (by kernel_rfl))
  f277 := Tryd.func193.trans (congrArg some (by kernel_rfl))
  t0 := Tryd.underlying0
  a0 := Tryd.isAgg0
  z0 := Tryd.sizeOf0
  v0 := Tryd.zeroValue0
  t3 := Tryd.underlying3
  a3 := Tryd.isAgg3
  z3 := Tryd.sizeOf3
  v3 := Tryd.zeroValue3
  t4 := Tryd.underlying4
  a4 := Tryd.isAgg4
  z4 := Tryd.sizeOf4
  v4 := Tryd.zeroValue4
  t5 := Tryd.underlying5
  a5 := Tryd.isAgg5
  z5 := Tryd.sizeOf5
  v5 := Tryd.zeroValue5
  t9 := Tryd.underlying9
  a9 := Tryd.isAgg9
  z9 := Tryd.sizeOf9
  v9 := Tryd.zeroValue9
  t20 := Tryd.underlying20
  a20 := Tryd.isAgg20
  z20 := Tryd.sizeOf20
  v20 := Tryd.zeroValue20
  t37 := Tryd.underlying98
  a37 := Tryd.isAgg98
  z37 := Tryd.sizeOf98
  v37 := Tryd.zeroValue98
  t46 := Tryd.underlying42
  a46 := Tryd.isAgg42
  z46 := Tryd.sizeOf42
  v46 := Tryd.zeroValue42
  t51 := Tryd.underlying150
  a51 := Tryd.isAgg150
  z51 := Tryd.sizeOf150
  v51 := Tryd.zeroValue150
  t53 := Tryd.underlying153
  a53 := Tryd.isAgg153
  z53 := Tryd.sizeOf153
  v53 := Tryd.zeroValue153
  t70 := Tryd.underlying97
  a70 := Tryd.isAgg97
  z70 := Tryd.sizeOf97
  v70 := Tryd.zeroValue97
  t72 := Tryd.underlying100
  a72 := Tryd.isAgg100
  z72 := Tryd.sizeOf100
  v72 := Tryd.zeroValue100
  t75 := Tryd.underlying102
  a75 := Tryd.isAgg102
  z75 := Tryd.sizeOf102
  v75 := Tryd.zeroValue102
  t76 := Tryd.underlying103
  a76 := Tryd.isAgg103
  z76 := Tryd.sizeOf103
  v76 := Tryd.zeroValue103
  t109 := Tryd.underlying123
  a109 := Tryd.isAgg123
  z109 := Tryd.sizeOf123
  v109 := Tryd.zeroValue123
  t127 := Tryd.underlying137
  a127 := Tryd.isAgg137
  z127 := Tryd.sizeOf137
  v127 := Tryd.zeroValue137
  t146 := Tryd.underlying151
  a146 := Tryd.isAgg151
  z146 := Tryd.sizeOf151
  v146 := Tryd.zeroValue151
  t148 := Tryd.underlying154
  a148 := Tryd.isAgg154
  z148 := Tryd.sizeOf154
  v148 := Tryd.zeroValue154
  t164 := Tryd.underlying173
  a164 := Tryd.isAgg173
  z164 := Tryd.sizeOf173
  v164 := Tryd.zeroValue173 }
def Tryd.lays138_ren : Go.Shelf.Ren := ⟨fun | 138 => 119 | 195 => 164 | 218 => 165 | 143 => 166 | 219 => 199 | 217 => 212 | 225 => 213 | 224 => 214 | 267 => 215 | 266 => 222 | 314 => 223 | n => n, fun | 9 => 9 | 3 => 3 | 4 => 4 | 5 => 5 | 0 => 0 | 46 => 42 | 146 => 151 | 51 => 150 | n => n, fun | 1 => 2 | n => n⟩
theorem Tryd.lays138 : Go.Proofs.Lays.n138 Tryd.prog Tryd.lays138_ren := {
  mixed := by kernel_rfl
  f138 := Tryd.func119.trans (congrArg some (by kernel_rfl))
  f143 := Tryd.func166.trans (congrArg some (by kernel_rfl))
  f195 := Tryd.func164.trans (congrArg some (by kernel_rfl))
  f217 := Tryd.func212.trans (congrArg some (by kernel_rfl))
  f218 := Tryd.func165.trans (congrArg some (by kernel_rfl))
  f219 := Tryd.func199.trans (congrArg some (by kernel_rfl))
  f224 := Tryd.func214.trans (congrArg some (by kernel_rfl))
  f225 := Tryd.func213.trans (congrArg some (by kernel_rfl))
  f266 := Tryd.func222.trans (congrArg some (by kernel_rfl))
  f267 := Tryd.func215.trans (congrArg some (by kernel_rfl))
  f314 := Tryd.func223.trans (congrArg some (by kernel_rfl))
  t0 := Tryd.underlying0
  a0 := Tryd.isAgg0
  z0 := Tryd.sizeOf0
  v0 := Tryd.zeroValue0
  t3 := Tryd.underlying3
  a3 := Tryd.isAgg3
  z3 := Tryd.sizeOf3
  v3 := Tryd.zeroValue3
  t4 := Tryd.underlying4
  a4 := Tryd.isAgg4
  z4 := Tryd.sizeOf4
  v4 := Tryd.zeroValue4
  t5 := Tryd.underlying5
  a5 := Tryd.isAgg5
  z5 := Tryd.sizeOf5
  v5 := Tryd.zeroValue5
  t9 := Tryd.underlying9
  a9 := Tryd.isAgg9
  z9 := Tryd.sizeOf9
  v9 := Tryd.zeroValue9
  t46 := Tryd.underlying42
  a46 := Tryd.isAgg42
  z46 := Tryd.sizeOf42
  v46 := Tryd.zeroValue42
  t51 := Tryd.underlying150
  a51 := Tryd.isAgg150
  z51 := Tryd.sizeOf150
  v51 := Tryd.zeroValue150
  t146 := Tryd.underlying151
  a146 := Tryd.isAgg151
  z146 := Tryd.sizeOf151
  v146 := Tryd.zeroValue151
  g1 := by kernel_rfl }
def Tryd.lays155_ren : Go.Shelf.Ren := ⟨fun | 155 => 75 | 154 => 120 | 138 => 119 | 165 => 113 | 143 => 166 | 166 => 88 | 197 => 167 | 169 => 92 | 195 => 164 | 218 => 165 | 240 => 131 | 241 => 152 | 219 => 199 | 260 => 200 | 276 => 179 | 277 => 193 | 217 => 212 | 225 => 213 | 224 => 214 | 267 => 215 | 266 => 222 | 314 => 223 | n => n, fun | 9 => 9 | 3 => 3 | 4 => 4 | 72 => 100 | 0 => 0 | 76 => 103 | 105 => 165 | 21 => 21 | 5 => 5 | 70 => 97 | 20 => 20 | 37 => 98 | 75 => 102 | 127 => 137 | 164 => 173 | 46 => 42 | 119 => 200 | 139 => 203 | 138 => 202 | 146 => 151 | 51 => 150 | 80 => 108 | n => n, fun | 1 => 2 | 3 => 4 | 4 => 5 | n => n⟩
theorem Tryd.lays155 : Go.Proofs.Lays.n155 Tryd.prog Tryd.lays155_ren := {
  mixed := by kernel_rfl
  f138 := Tryd.func119.trans (congrArg some (by kernel_rfl))
  f143 := Tryd.func166.trans (congrArg some (by kernel_rfl))
  f154 := Tryd.func120.trans (congrArg some (by kernel_rfl))
  f155 := Tryd.func75.trans (congrArg some (by kernel_rfl))
  f165 := Tryd.func113.trans (congrArg some (by kernel_rfl))
  f166 := Tryd.func88.trans (congrArg some (by kernel_rfl))
  f169 := Tryd.func92.trans (congrArg some (by kernel_rfl))
  f195 := Tryd.func164.trans (congrArg some (by kernel_rfl))
  f197 := Tryd.func167.trans (congrArg some (by kernel_rfl))
  f217 := Tryd.func212.trans (congrArg some (by kernel_rfl))
  f218 := Tryd.func165.trans (congrArg some (by kernel_rfl))
  f219 := Tryd.func199.trans (congrArg some (by kernel_rfl))
  f224 := Tryd.func214.trans (congrArg some (by kernel_rfl))
  f225 := Tryd.func213.trans (congrArg some (by kernel_rfl))
  f240 := Tryd.func131.trans (congrArg some (by kernel_rfl))
  f241 := Tryd.func152.trans (congrArg some (by kernel_rfl))
  f260 := Tryd.func200.trans (congrArg some (by kernel_rfl))
  f266 := Tryd.func222.trans (congrArg some (by kernel_rfl))
  f267 := Tryd.func215.trans (congrArg some (by kernel_rfl))
  f276 := Tryd.func179.trans (congrArg some (by kernel_rfl))
  f277 := Tryd.func193.trans (congrArg some (by kernel_rfl))
  f314 := Tryd.func223.trans (congrArg some (by kernel_rfl))
  t0 := Tryd.underlying0
  a0 := Tryd.isAgg0
  z0 := Tryd.sizeOf0
  v0 := Tryd.zeroValue0
  t3 := Tryd.underlying3
  a3 := Tryd.isAgg3
  z3 := Tryd.sizeOf3
  v3 := Tryd.zeroValue3
  t4 := Tryd.underlying4
  a4 := Tryd.isAgg4
  z4 := Tryd.sizeOf4
  v4 := Tryd.zeroValue4
  t5 := Tryd.underlying5
  a5 := Tryd.isAgg5
  z5 := Tryd.sizeOf5
  v5 := Tryd.zeroValue5
  t9 := Tryd.underlying9
  a9 := Tryd.isAgg9
  z9 := Tryd.sizeOf9
  v9 := Tryd.zeroValue9
  t20 := Tryd.underlying20
  a20 := Tryd.isAgg20
  z20 := Tryd.sizeOf20
  v20 := Tryd.zeroValue20
  t21 := Tryd.underlying21
  a21 := Tryd.isAgg21
  z21 := Tryd.sizeOf21
  v21 := Tryd.zeroValue21
  t37 := Tryd.underlying98
  a37 := Tryd.isAgg98
  z37 := Tryd.sizeOf98
  v37 := Tryd.zeroValue98
  t46 := Tryd.underlying42
  a46 := Tryd.isAgg42
  z46 := Tryd.sizeOf42
  v46 := Tryd.zeroValue42
  t51 := Tryd.underlying150
  a51 := Tryd.isAgg150
  z51 := Tryd.sizeOf150
  v51 := Tryd.zeroValue150
  t70 := Tryd.underlying97
  a70 := Tryd.isAgg97
  z70 := Tryd.sizeOf97
  v70 := Tryd.zeroValue97
  t72 := Tryd.underlying100
  a72 := Tryd.isAgg100
  z72 := Tryd.sizeOf100
  v72 := Tryd.zeroValue100
  t75 := Tryd.underlying102
  a75 := Tryd.isAgg102
  z75 := Tryd.sizeOf102
  v75 := Tryd.zeroValue102
  t76 := Tryd.underlying103
  a76 := Tryd.isAgg103
  z76 := Tryd.sizeOf103
  v76 := Tryd.zeroValue103
  t105 := Tryd.underlying165
  a105 := Tryd.isAgg165
  z105 := Tryd.sizeOf165
  v105 := Tryd.zeroValue165
  t119 := Tryd.underlying200
  a119 := Tryd.isAgg200
  z119 := Tryd.sizeOf200
  t127 := Tryd.underlying137
  a127 := Tryd.isAgg137
  z127 := Tryd.sizeOf137
  v127 := Tryd.zeroValue137
  t138 := Tryd.underlying202
  a138 := Tryd.isAgg202
  z138 := Tryd.sizeOf202
  v138 := Tryd.zeroValue202
  t139 := Tryd.underlying203
  a139 := Tryd.isAgg203
  z139 := Tryd.sizeOf203
  v139 := Tryd.zeroValue203
  t146 := Tryd.underlying151
  a146 := Tryd.isAgg151
  z146 := Tryd.sizeOf151
  v146 := Tryd.zeroValue151
  t164 := Tryd.underlying173
  a164 := Tryd.isAgg173
  z164 := Tryd.sizeOf173
  v164 := Tryd.zeroValue173
  g1 := by kernel_rfl
  g3 := by kernel_rfl
  g4 := by kernel_rfl }
def Tryd.lays148_ren : Go.Shelf.Ren := ⟨fun | 148 => 76 | 222 => 121 | 223 => 122 | 269 => 168 | n => n, fun | 9 => 9 | 3 => 3 | 4 => 4 | 5 => 5 | 146 => 151 | 51 => 150 | 46 => 42 | n => n, fun | n => n⟩
theorem Tryd.lays148 : Go.Proofs.Lays.n148 Tryd.prog Tryd.lays148_ren := {
  mixed := by kernel_rfl
  f148 := Tryd.func76.trans (congrArg some (by kernel_rfl))
  f222 := Tryd.func121.trans (congrArg some (by kernel_rfl))
  f223 := Tryd.func122.trans (congrArg some (by kernel_rfl))
  f269 := Tryd.func168.trans (congrArg some (by kernel_rfl))
  t3 := Tryd.underlying3
  a3 := Tryd.isAgg3
  z3 := Tryd.sizeOf3
  v3 := Tryd.zeroValue3
  t4 := Tryd.underlying4
  a4 := Tryd.isAgg4
  z4 := Tryd.sizeOf4
  v4 := Tryd.zeroValue4
  t5 := Tryd.underlying5
  a5 := Tryd.isAgg5
  z5 := Tryd.sizeOf5
  v5 := Tryd.zeroValue5
  t9 := Tryd.underlying9
  a9 := Tryd.isAgg9
  z9 := Tryd.sizeOf9
  v9 := Tryd.zeroValue9
  t46 := Tryd.underlying42
  a46 := Tryd.isAgg42
  z46 := Tryd.sizeOf42
  v46 := Tryd.zeroValue42
  t51 := Tryd.underlying150
  a51 := Tryd.isAgg150
  z51 := Tryd.sizeOf150
  v51 := Tryd.zeroValue150
  t146 := Tryd.underlying151
  a146 := Tryd.isAgg151
  z146 := Tryd.sizeOf151
  v146 := Tryd.zeroValue151 }
theorem Tryd.Builder_Extra_105 : Builder.Extra Tryd.prog Tryd.lays105_ren := {
  sizeBuilder := by kernel_rfl
  liesBuilder := by kernel_rfl
  t5 := Tryd.underlying5
  a5 := Tryd.isAgg5
  z5 := Tryd.sizeOf5
  v5 := Tryd.zeroValue5
  infoByte := by kernel_rfl
  cellsByte := by kernel_rfl
  sizeByte := by kernel_rfl
  neB5 := by decide }
theorem Tryd.Builder_Extra_155 : Builder.Extra Tryd.prog Tryd.lays155_ren := {
  sizeBuilder := by kernel_rfl
  liesBuilder := by kernel_rfl
  t5 := Tryd.underlying5
  a5 := Tryd.isAgg5
  z5 := Tryd.sizeOf5
  v5 := Tryd.zeroValue5
  infoByte := by kernel_rfl
  cellsByte := by kernel_rfl
  sizeByte := by kernel_rfl
  neB5 := by decide }
end Go.Proofs.YtoenecgjiejljaaDoor
namespace Go.Proofs.YtoenecgjiejljaaDoor
open Go.RowKit
set_option linter.unusedVariables false

/-- How many bytes of a text are worn. -/
def wb (l : List UInt8) : Nat := l.count 63
/-- What Count returns. -/
def ctE (s : ByteArray) : Int := if formB s true then 0 else 2
def ctV (s : ByteArray) : Int := if formB s true then (26 ^ wb (bl (headB s)) * wyL (wL s) 0 : Nat) else 0
theorem wyl_zero {l : List Int} (hw : WDig l) (hl : l.length ≤ 6) : (nW l = 0 ∧ sumL l = 0 ∧ wyL l 0 = 1) ∨ (nW l = 0 ∧ sumL l ≠ 0 ∧ wyL l 0 = 0) ∨ (nW l ≠ 0 ∧ wyL l 0 = 10 ^ (nW l - 1)) := by
  obtain ⟨h1, h2⟩ := wy_closed l hw hl 0 (by decide)
  by_cases h0 : nW l = 0
  · have := h1 h0
    by_cases hs : sumL l = 0
    · rw [if_pos (by rw [hs]; rfl)] at this
      exact .inl ⟨h0, hs, this⟩
    · rw [if_neg (fun e => hs e.symm)] at this
      exact .inr (.inl ⟨h0, hs, this⟩)
  · exact .inr (.inr ⟨h0, h2 h0⟩)
theorem countWorn_any (s : ByteArray) (w : World) : Calls Tryd.prog 70 #[.string s] w fun e w' => e = .returned (.int .i64 (wb (bl s))) ∧ w = w' := by
  have H := Lib.hid (show Calls Tryd.prog 119 #[.string s, .string ⟨#[63]⟩] w fun e w' => e = .returned (.int .i64 (wb (bl s))) ∧ w = w' from (Any.strings_Count_one Tryd.lays138 s 63 w).mono fun e w' ⟨h1, h2⟩ => ⟨h1, h2.symm⟩)
  generalize wb (bl s) = n at *
  go_enter Tryd.func70, Tryd.ntmps70
  go_wp2_with fail
  refine (H.out).mono ?_
  rintro e w' ⟨rfl, rfl⟩
  go_wp2_with fail
  go_ret
  exact ⟨rfl, rfl⟩
theorem power_any (b n : Nat) (w : World) (hb : b ≤ 26) (hn : n ≤ 6) : Calls Tryd.prog 71 #[.int .i64 b, .int .i64 n] w fun e w' => e = .returned (.int .i64 ((b ^ n : Nat) : Int)) ∧ w = w' := by
  have HP := Lib.hid (show ∀ k, k ≤ 6 → b ^ k ≤ 308915776 from fun k hk => Nat.le_trans (Nat.pow_le_pow_left hb k) (Nat.le_trans (Nat.pow_le_pow_right (by omega) hk) (by decide)))
  have HB := Lib.hid hb
  have hn1 : (n : Int) ≤ 6 := by omega
  have hn0 : (0 : Int) ≤ (n : Int) := by omega
  have hb0 : (0 : Int) ≤ (b : Int) := by omega
  have hb1 : (b : Int) ≤ 26 := by omega
  clear hb
  go_enter Tryd.func71, Tryd.ntmps71
  go_wp2_with fail
  go_loop [5, 7] (fun v i => ∃ k : Nat, k ≤ n ∧ i = .int .i64 k ∧ v = .int .i64 ((b ^ k : Nat) : Int)) (fun _ i => n - (intOf i).toNat)
  case atStart => exact ⟨0, by omega, rfl, rfl⟩
  case round =>
    obtain ⟨k, hk, rfl, rfl⟩ := hrel
    have h1 := HP.out k (by omega)
    by_cases hlt : k < n
    · have h2 := HP.out (k + 1) (by omega)
      have hm : ((b ^ (k + 1) : Nat) : Int) = ((b ^ k : Nat) : Int) * (b : Int) := by rw [Nat.pow_succ]; exact Int.natCast_mul _ _
      have hlt' : (k : Int) < (n : Int) := by omega
      have m1 : ((b ^ k : Nat) : Int) * (b : Int) ≤ 308915776 := by rw [← hm]; omega
      have m0 : 0 ≤ ((b ^ k : Nat) : Int) * (b : Int) := by rw [← hm]; omega
      have HM := Lib.hid hm
      clear hm h2
      generalize ((b ^ k : Nat) : Int) = P at *
      have hwr : IntKind.i64.wrap (P * (b : Int)) = P * (b : Int) := by rw [IntKind.wrap_i64]; omega
      have hwr2 : wrap64 (P * (b : Int)) = P * (b : Int) := by unfold wrap64; omega
      go_wp2_with fail
      go_round
      case rel => exact ⟨k + 1, by omega, by go_num, by rw [HM.out]⟩
      case measure => simp [intOf]; omega
    · obtain rfl : k = n := by omega
      go_wp2_with fail
      go_ret
      exact ⟨rfl, rfl⟩
theorem wb_le {l : List UInt8} : wb l ≤ l.length := List.count_le_length
theorem tail_bytes {s : ByteArray} (h : 6 ≤ s.size) : wL s = (bl (tailB s)).map fun c => wnI (c.toNat : Int) := by
  apply List.ext_getElem?
  intro i
  unfold wL wlK
  rw [List.getElem?_map, List.getElem?_map]
  have hl : (bl (tailB s)).length = 6 := by rw [bl_len, size_tailB h]
  by_cases hi : i < 6
  · rw [List.getElem?_range hi, List.getElem?_eq_getElem (by omega)]
    simp only [Option.map_some, Option.some.injEq]
    have h1 : bAt (tailB s) i = bAt s (s.size - 6 + i) := by unfold tailB; rw [bAt_extract _ _ _ _ (by omega)]
    rw [← h1]
    unfold bAt
    rw [List.getD_eq_getElem?_getD, List.getElem?_eq_getElem (by rw [← hl] at hi; exact hi)]
    rfl
  · rw [List.getElem?_eq_none (by simp; omega), List.getElem?_eq_none (by omega)]
    rfl
theorem form_byte {s : ByteArray} (h : formB s true = true) {i : Nat} (hi : i < 6) : bAt s (s.size - 6 + i) = 63 ∨ (48 ≤ bAt s (s.size - 6 + i) ∧ bAt s (s.size - 6 + i) ≤ 57) := by
  have hs := form_size h
  have := form_at h (i := s.size - 6 + i) (by omega)
  unfold okAt at this
  rw [if_neg (by omega)] at this
  by_cases h63 : bAt s (s.size - 6 + i) = 63
  · exact .inl h63
  · refine .inr ?_
    simp only [h63, Bool.true_and, decide_false, Bool.or_false] at this
    rwa [isNum_iff] at this
theorem tail_byte {s : ByteArray} (h : formB s true = true) {c : UInt8} (hc : c ∈ bl (tailB s)) : c.toNat = 63 ∨ (48 ≤ c.toNat ∧ c.toNat ≤ 57) := by
  have hs := form_size h
  obtain ⟨i, hi, he⟩ := List.getElem_of_mem hc
  have hl : (bl (tailB s)).length = 6 := by rw [bl_len, size_tailB (by omega)]
  have h1 : bAt (tailB s) i = bAt s (s.size - 6 + i) := by unfold tailB; rw [bAt_extract _ _ _ _ (by omega)]
  have h2 : bAt (tailB s) i = (c.toNat : Int) := by
    unfold bAt
    rw [List.getD_eq_getElem?_getD, show (tailB s).data.toList = bl (tailB s) from rfl, List.getElem?_eq_getElem hi, he]
    rfl
  have := form_byte h (i := i) (by omega)
  omega
theorem nW_tail {s : ByteArray} (h : formB s true = true) : nW (wL s) = wb (bl (tailB s)) := by
  have hs := form_size h
  rw [tail_bytes (by omega)]
  unfold nW wb
  rw [List.countP_map, List.count]
  refine List.countP_congr fun c hc => ?_
  have hb := tail_byte h hc
  unfold wnI
  simp only [Function.comp_apply, decide_eq_true_eq, beq_iff_eq]
  constructor
  · intro h0
    rcases hb with h63 | h1
    · exact UInt8.toNat_inj.1 h63
    · rw [if_neg (by omega)] at h0
      omega
  · rintro rfl
    rw [if_pos (by decide)]
    decide
theorem wl_plain {s : ByteArray} (h : formB s true = true) (h0 : nW (wL s) = 0) : wL s = tailD s ∧ allNum (tailB s) = true := by
  have hs := form_size h
  have hd := nW_dig (wl_dig h) h0
  have key : ∀ i, i < 6 → bAt s (s.size - 6 + i) ≠ 63 ∧ Dig (bAt s (s.size - 6 + i) - 48) := by
    intro i hi
    have hm : wnI (bAt s (s.size - 6 + i)) ∈ wL s := List.mem_map.2 ⟨i, List.mem_range.2 hi, rfl⟩
    have := hd _ hm
    unfold wnI at this
    by_cases h63 : bAt s (s.size - 6 + i) = 63
    · rw [if_pos h63] at this; exact absurd this.1 (by decide)
    · rw [if_neg h63] at this; exact ⟨h63, this⟩
  constructor
  · unfold wL wlK tailD tailK
    refine List.map_congr_left fun i hi => ?_
    exact if_neg (key i (List.mem_range.1 hi)).1
  · refine List.all_eq_true.2 fun i hi => ?_
    have hi := List.mem_range.1 hi
    rw [size_tailB (by omega)] at hi
    have := (key i hi).2
    unfold tailB
    rw [bAt_extract _ _ _ _ (by omega), isNum_iff]
    have h1 := this.1
    have h2 := this.2
    omega
end Go.Proofs.YtoenecgjiejljaaDoor
