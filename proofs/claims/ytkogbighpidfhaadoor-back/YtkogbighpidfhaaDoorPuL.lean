/- strconv.ParseUint and strings.Clone: the library's contracts, laid at this program. -/
import Derived.Test.YtkogbighpidfhaaDoorRows
import Derived.Shelf.Pu.ParseUintPublic10
import Derived.Shelf.Pu.Clone
namespace Go.Proofs.YtkogbighpidfhaaDoor
open Go.RowKit


/-- The contracts' numbers, here. -/
def renP : Go.Shelf.Ren := ⟨fun n => if n = 14 then 40 else if n = 16 then 49 else if n = 17 then 50 else if n = 19 then 56 else if n = 20 then 57 else if n = 21 then 58 else if n = 22 then 59 else if n = 23 then 60 else if n = 24 then 61 else if n = 25 then 55 else if n = 26 then 63 else if n = 27 then 64 else if n = 28 then 65 else if n = 29 then 66 else if n = 30 then 67 else if n = 31 then 68 else if n = 32 then 69 else if n = 33 then 70 else if n = 34 then 71 else if n = 35 then 72 else if n = 36 then 73 else if n = 37 then 74 else if n = 38 then 75 else if n = 39 then 76 else if n = 40 then 77 else n, fun n => if n = 0 then 0 else if n = 2 then 2 else if n = 3 then 3 else if n = 4 then 4 else if n = 5 then 5 else if n = 9 then 9 else if n = 20 then 20 else if n = 21 then 21 else if n = 22 then 35 else if n = 24 then 25 else if n = 25 then 73 else if n = 34 then 106 else if n = 36 then 38 else if n = 37 then 39 else if n = 39 then 108 else if n = 44 then 113 else if n = 47 then 111 else if n = 48 then 116 else if n = 50 then 118 else if n = 52 then 120 else if n = 55 then 123 else if n = 59 then 127 else if n = 60 then 128 else if n = 61 then 129 else if n = 65 then 132 else if n = 66 then 133 else if n = 67 then 134 else n, fun n => if n = 0 then 1 else if n = 1 then 2 else if n = 2 then 4 else if n = 3 then 5 else if n = 4 then 6 else n⟩
set_option maxRecDepth 100000 in
theorem puL : LaysPu.n14 Tryd.prog renP where
  mixed := by kernel_rfl
  f14 := Tryd.func40.trans (by kernel_rfl)
  f16 := Tryd.func49.trans (by kernel_rfl)
  f17 := Tryd.func50.trans (by kernel_rfl)
  f19 := Tryd.func56.trans (by kernel_rfl)
  f20 := Tryd.func57.trans (by kernel_rfl)
  f21 := Tryd.func58.trans (by kernel_rfl)
  f22 := Tryd.func59.trans (by kernel_rfl)
  f23 := Tryd.func60.trans (by kernel_rfl)
  f24 := Tryd.func61.trans (by kernel_rfl)
  f25 := Tryd.func55.trans (by kernel_rfl)
  f26 := Tryd.func63.trans (by kernel_rfl)
  f27 := Tryd.func64.trans (by kernel_rfl)
  f28 := Tryd.func65.trans (by kernel_rfl)
  f29 := Tryd.func66.trans (by kernel_rfl)
  f30 := Tryd.func67.trans (by kernel_rfl)
  f31 := Tryd.func68.trans (by kernel_rfl)
  f32 := Tryd.func69.trans (by kernel_rfl)
  f33 := Tryd.func70.trans (by kernel_rfl)
  f34 := Tryd.func71.trans (by kernel_rfl)
  f35 := Tryd.func72.trans (by kernel_rfl)
  f36 := Tryd.func73.trans (by kernel_rfl)
  f37 := Tryd.func74.trans (by kernel_rfl)
  f38 := Tryd.func75.trans (by kernel_rfl)
  f39 := Tryd.func76.trans (by kernel_rfl)
  f40 := Tryd.func77.trans (by kernel_rfl)
  t0 := by kernel_rfl
  a0 := fun w => by kernel_rfl
  z0 := fun w => by kernel_rfl
  v0 := fun w => by kernel_rfl
  i0 := by kernel_rfl
  t2 := by kernel_rfl
  a2 := fun w => by kernel_rfl
  z2 := fun w => by kernel_rfl
  v2 := fun w => by kernel_rfl
  i2 := by kernel_rfl
  t3 := by kernel_rfl
  a3 := fun w => by kernel_rfl
  z3 := fun w => by kernel_rfl
  v3 := fun w => by kernel_rfl
  i3 := by kernel_rfl
  t4 := by kernel_rfl
  a4 := fun w => by kernel_rfl
  z4 := fun w => by kernel_rfl
  v4 := fun w => by kernel_rfl
  i4 := by kernel_rfl
  t5 := by kernel_rfl
  a5 := fun w => by kernel_rfl
  z5 := fun w => by kernel_rfl
  v5 := fun w => by kernel_rfl
  i5 := by kernel_rfl
  t9 := by kernel_rfl
  a9 := fun w => by kernel_rfl
  z9 := fun w => by kernel_rfl
  v9 := fun w => by kernel_rfl
  i9 := by kernel_rfl
  t20 := by kernel_rfl
  a20 := fun w => by kernel_rfl
  z20 := fun w => by kernel_rfl
  v20 := fun w => by kernel_rfl
  i20 := by kernel_rfl
  t21 := by kernel_rfl
  a21 := fun w => by kernel_rfl
  z21 := fun w => by kernel_rfl
  v21 := fun w => by kernel_rfl
  i21 := by kernel_rfl
  t22 := by kernel_rfl
  a22 := fun w => by kernel_rfl
  z22 := fun w => by kernel_rfl
  v22 := fun w => by kernel_rfl
  i22 := by kernel_rfl
  t24 := by kernel_rfl
  a24 := fun w => by kernel_rfl
  z24 := fun w => by kernel_rfl
  v24 := fun w => by kernel_rfl
  i24 := by kernel_rfl
  t25 := by kernel_rfl
  a25 := fun w => by kernel_rfl
  z25 := fun w => by kernel_rfl
  v25 := fun w => by kernel_rfl
  i25 := by kernel_rfl
  t34 := by kernel_rfl
  a34 := fun w => by kernel_rfl
  z34 := fun w => by kernel_rfl
  v34 := fun w => by kernel_rfl
  i34 := by kernel_rfl
  c34 := by kernel_rfl
  t36 := by kernel_rfl
  a36 := fun w => by kernel_rfl
  z36 := fun w => by kernel_rfl
  v36 := fun w => by kernel_rfl
  i36 := by kernel_rfl
  t37 := by kernel_rfl
  a37 := fun w => by kernel_rfl
  z37 := fun w => by kernel_rfl
  v37 := fun w => by kernel_rfl
  i37 := by kernel_rfl
  t39 := by kernel_rfl
  a39 := fun w => by kernel_rfl
  z39 := fun w => by kernel_rfl
  v39 := fun w => by kernel_rfl
  i39 := by kernel_rfl
  t44 := by kernel_rfl
  a44 := fun w => by kernel_rfl
  z44 := fun w => by kernel_rfl
  v44 := fun w => by kernel_rfl
  i44 := by kernel_rfl
  t47 := by kernel_rfl
  a47 := fun w => by kernel_rfl
  z47 := fun w => by kernel_rfl
  v47 := fun w => by kernel_rfl
  i47 := by kernel_rfl
  t48 := by kernel_rfl
  a48 := fun w => by kernel_rfl
  z48 := fun w => by kernel_rfl
  v48 := fun w => by kernel_rfl
  i48 := by kernel_rfl
  t50 := by kernel_rfl
  a50 := fun w => by kernel_rfl
  z50 := fun w => by kernel_rfl
  v50 := fun w => by kernel_rfl
  i50 := by kernel_rfl
  t52 := by kernel_rfl
  a52 := fun w => by kernel_rfl
  z52 := fun w => by kernel_rfl
  v52 := fun w => by kernel_rfl
  i52 := by kernel_rfl
  t55 := by kernel_rfl
  a55 := fun w => by kernel_rfl
  z55 := fun w => by kernel_rfl
  v55 := fun w => by kernel_rfl
  i55 := by kernel_rfl
  t59 := by kernel_rfl
  a59 := fun w => by kernel_rfl
  z59 := fun w => by kernel_rfl
  v59 := fun w => by kernel_rfl
  i59 := by kernel_rfl
  t60 := by kernel_rfl
  a60 := fun w => by kernel_rfl
  z60 := fun w => by kernel_rfl
  v60 := fun w => by kernel_rfl
  i60 := by kernel_rfl
  t61 := by kernel_rfl
  a61 := fun w => by kernel_rfl
  z61 := fun w => by kernel_rfl
  t65 := by kernel_rfl
  a65 := fun w => by kernel_rfl
  z65 := fun w => by kernel_rfl
  v65 := fun w => by kernel_rfl
  i65 := by kernel_rfl
  t66 := by kernel_rfl
  a66 := fun w => by kernel_rfl
  z66 := fun w => by kernel_rfl
  v66 := fun w => by kernel_rfl
  i66 := by kernel_rfl
  t67 := by kernel_rfl
  a67 := fun w => by kernel_rfl
  z67 := fun w => by kernel_rfl
  v67 := fun w => by kernel_rfl
  i67 := by kernel_rfl
  g0 := by kernel_rfl
  m0 := by kernel_rfl
  g1 := by kernel_rfl
  m1 := by kernel_rfl
  g2 := by kernel_rfl
  m2 := by kernel_rfl
  g3 := by kernel_rfl
  m3 := by kernel_rfl
  g4 := by kernel_rfl
  m4 := by kernel_rfl
set_option maxRecDepth 100000 in
theorem clL : LaysPu.n25 Tryd.prog renP where
  mixed := by kernel_rfl
  f25 := Tryd.func55.trans (by kernel_rfl)
  t0 := by kernel_rfl
  a0 := fun w => by kernel_rfl
  z0 := fun w => by kernel_rfl
  v0 := fun w => by kernel_rfl
  i0 := by kernel_rfl
  t3 := by kernel_rfl
  a3 := fun w => by kernel_rfl
  z3 := fun w => by kernel_rfl
  v3 := fun w => by kernel_rfl
  i3 := by kernel_rfl
  t4 := by kernel_rfl
  a4 := fun w => by kernel_rfl
  z4 := fun w => by kernel_rfl
  v4 := fun w => by kernel_rfl
  i4 := by kernel_rfl
  t5 := by kernel_rfl
  a5 := fun w => by kernel_rfl
  z5 := fun w => by kernel_rfl
  v5 := fun w => by kernel_rfl
  i5 := by kernel_rfl
  t9 := by kernel_rfl
  a9 := fun w => by kernel_rfl
  z9 := fun w => by kernel_rfl
  v9 := fun w => by kernel_rfl
  i9 := by kernel_rfl
  t37 := by kernel_rfl
  a37 := fun w => by kernel_rfl
  z37 := fun w => by kernel_rfl
  v37 := fun w => by kernel_rfl
  i37 := by kernel_rfl
  t47 := by kernel_rfl
  a47 := fun w => by kernel_rfl
  z47 := fun w => by kernel_rfl
  v47 := fun w => by kernel_rfl
  i47 := by kernel_rfl
end Go.Proofs.YtkogbighpidfhaaDoor
