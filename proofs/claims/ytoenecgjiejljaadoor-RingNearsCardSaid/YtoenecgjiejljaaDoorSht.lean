/-
  The library's contracts laid at this program: numbers, and what the program says of them. No condition.
-/
import Derived.Shelf.Sort.Plain
import Derived.Shelf.Slices.In.SortNone
import Derived.Test.YtoenecgjiejljaaDoorProg
namespace Go.Proofs.YtoenecgjiejljaaDoor
open Go.Shelf
def Tryd.lays190_ren : Go.Shelf.Ren := ⟨fun | 190 => 66 | 125 => 117 | 258 => 116 | 128 => 162 | 129 => 163 | 302 => 153 | 303 => 154 | 304 => 155 | 305 => 156 | 306 => 157 | 307 => 158 | 308 => 159 | 309 => 160 | 310 => 161 | 333 => 194 | 329 => 195 | 330 => 196 | 334 => 197 | 335 => 198 | 336 => 177 | 344 => 211 | n => n, fun | 31 => 32 | 9 => 9 | 3 => 3 | 46 => 42 | 0 => 0 | 51 => 150 | 53 => 153 | 4 => 4 | 183 => 158 | 182 => 157 | 131 => 161 | 5 => 5 | 218 => 185 | 222 => 189 | 228 => 198 | 229 => 147 | n => n, fun | n => n⟩
theorem Tryd.lays190 : Go.Proofs.Lays.n190 Tryd.prog Tryd.lays190_ren := {
  mixed := by kernel_rfl
  f125 := Tryd.func117.trans (congrArg some (by kernel_rfl))
  f128 := Tryd.func162.trans (congrArg some (by kernel_rfl))
  f129 := Tryd.func163.trans (congrArg some (by kernel_rfl))
  f190 := Tryd.func66.trans (congrArg some (by kernel_rfl))
  f258 := Tryd.func116.trans (congrArg some (by kernel_rfl))
  f302 := Tryd.func153.trans (congrArg some (by kernel_rfl))
  f303 := Tryd.func154.trans (congrArg some (by kernel_rfl))
  f304 := Tryd.func155.trans (congrArg some (by kernel_rfl))
  f305 := Tryd.func156.trans (congrArg some (by kernel_rfl))
  f306 := Tryd.func157.trans (congrArg some (by kernel_rfl))
  f307 := Tryd.func158.trans (congrArg some (by kernel_rfl))
  f308 := Tryd.func159.trans (congrArg some (by kernel_rfl))
  f309 := Tryd.func160.trans (congrArg some (by kernel_rfl))
  f310 := Tryd.func161.trans (congrArg some (by kernel_rfl))
  f329 := Tryd.func195.trans (congrArg some (by kernel_rfl))
  f330 := Tryd.func196.trans (congrArg some (by kernel_rfl))
  f333 := Tryd.func194.trans (congrArg some (by kernel_rfl))
  f334 := Tryd.func197.trans (congrArg some (by kernel_rfl))
  f335 := Tryd.func198.trans (congrArg some (by kernel_rfl))
  f336 := Tryd.func177.trans (congrArg some (by kernel_rfl))
  f344 := Tryd.func211.trans (congrArg some (by kernel_rfl))
  t0 := Tryd.underlying0
  a0 := Tryd.isAgg0
  z0 := Tryd.sizeOf0
  v0 := Tryd.zeroValue0
  t3 := Tryd.underlying3
  a3 := Tryd.isAgg3
  z3 := Tryd.sizeOf3
  v3 := Tryd.zeroValue3
  t4 := Tryd.underlying4
  a4 := Tryd.isAgg4
  z4 := Tryd.sizeOf4
  v4 := Tryd.zeroValue4
  t5 := Tryd.underlying5
  a5 := Tryd.isAgg5
  z5 := Tryd.sizeOf5
  v5 := Tryd.zeroValue5
  t9 := Tryd.underlying9
  a9 := Tryd.isAgg9
  z9 := Tryd.sizeOf9
  v9 := Tryd.zeroValue9
  t31 := Tryd.underlying32
  a31 := Tryd.isAgg32
  z31 := Tryd.sizeOf32
  v31 := Tryd.zeroValue32
  t46 := Tryd.underlying42
  a46 := Tryd.isAgg42
  z46 := Tryd.sizeOf42
  v46 := Tryd.zeroValue42
  t51 := Tryd.underlying150
  a51 := Tryd.isAgg150
  z51 := Tryd.sizeOf150
  v51 := Tryd.zeroValue150
  t53 := Tryd.underlying153
  a53 := Tryd.isAgg153
  z53 := Tryd.sizeOf153
  v53 := Tryd.zeroValue153
  t131 := Tryd.underlying161
  a131 := Tryd.isAgg161
  z131 := Tryd.sizeOf161
  v131 := Tryd.zeroValue161
  t182 := Tryd.underlying157
  a182 := Tryd.isAgg157
  z182 := Tryd.sizeOf157
  v182 := Tryd.zeroValue157
  t183 := Tryd.underlying158
  a183 := Tryd.isAgg158
  z183 := Tryd.sizeOf158
  v183 := Tryd.zeroValue158
  t218 := Tryd.underlying185
  a218 := Tryd.isAgg185
  z218 := Tryd.sizeOf185
  v218 := Tryd.zeroValue185
  t222 := Tryd.underlying189
  a222 := Tryd.isAgg189
  z222 := Tryd.sizeOf189
  v222 := Tryd.zeroValue189
  t228 := Tryd.underlying198
  a228 := Tryd.isAgg198
  z228 := Tryd.sizeOf198
  v228 := Tryd.zeroValue198
  t229 := Tryd.underlying147
  a229 := Tryd.isAgg147
  z229 := Tryd.sizeOf147
  v229 := Tryd.zeroValue147 }
end Go.Proofs.YtoenecgjiejljaaDoor
