/- Common to the claims of this seat, part 7: texts that were written one by one, laid behind one another. -/
import Derived.Test.YtcndihekpdebhaaChecked
import Derived.Shelf.Abstract
import Derived.Shelf.SlSortCmp.KitK
/- The library's stable sort at structs: what is asked of a program that has its bodies: their types, but for the struct's own. -/
namespace Go.Proofs.Ytcndihekpdebhaa.Sts
open Go.Shelf
structure Lay (P : Program) : Prop where
  mixed : P.follows .mixedOrders = true
  f_swap : P.funcs[60]? = some Try.f60
  f_rot : P.funcs[58]? = some Try.f58
  f_sym : P.funcs[54]? = some Try.f54
  t0 : P.underlying 0 = some (TypeDesc.tuple #[])
  a0 : ∀ w, (isAgg 0).run P w = .ok false w
  z0 : ∀ w, (Go.sizeOf 0).run P w = .ok 1 w
  v0 : ∀ w, (zeroValue 0).run P w = .ok (Value.tuple #[]) w
  t3 : P.underlying 3 = some (TypeDesc.int IntKind.i64)
  a3 : ∀ w, (isAgg 3).run P w = .ok false w
  z3 : ∀ w, (Go.sizeOf 3).run P w = .ok 1 w
  v3 : ∀ w, (zeroValue 3).run P w = .ok (Value.int IntKind.i64 0) w
  t4 : P.underlying 4 = some (TypeDesc.bool)
  a4 : ∀ w, (isAgg 4).run P w = .ok false w
  z4 : ∀ w, (Go.sizeOf 4).run P w = .ok 1 w
  v4 : ∀ w, (zeroValue 4).run P w = .ok (Value.bool false) w
  tu : P.underlying 42 = some (TypeDesc.int IntKind.u64)
  au : ∀ w, (isAgg 42).run P w = .ok false w
  zu : ∀ w, (Go.sizeOf 42).run P w = .ok 1 w
  vu : ∀ w, (zeroValue 42).run P w = .ok (Value.int IntKind.u64 0) w
  tl : P.underlying 22 = some (TypeDesc.slice (40))
  al : ∀ w, (isAgg 22).run P w = .ok false w
  zl : ∀ w, (Go.sizeOf 22).run P w = .ok 1 w
  vl : ∀ w, (zeroValue 22).run P w = .ok (Value.slice none 0 0) w
  tc : P.underlying 57 = some (TypeDesc.func #[40, 40] #[3] false)
  ac : ∀ w, (isAgg 57).run P w = .ok false w
  zc : ∀ w, (Go.sizeOf 57).run P w = .ok 1 w
  vc : ∀ w, (zeroValue 57).run P w = .ok (Value.nilFunc) w
theorem lay : Lay Try.prog := {
  mixed := by kernel_rfl
  f_swap := Try.func60
  f_rot := Try.func58
  f_sym := Try.func54
  t0 := Try.underlying0
  a0 := Try.isAgg0
  z0 := Try.sizeOf0
  v0 := Try.zeroValue0
  t3 := Try.underlying3
  a3 := Try.isAgg3
  z3 := Try.sizeOf3
  v3 := Try.zeroValue3
  t4 := Try.underlying4
  a4 := Try.isAgg4
  z4 := Try.sizeOf4
  v4 := Try.zeroValue4
  tu := Try.underlying42
  au := Try.isAgg42
  zu := Try.sizeOf42
  vu := Try.zeroValue42
  tl := Try.underlying22
  al := Try.isAgg22
  zl := Try.sizeOf22
  vl := Try.zeroValue22
  tc := Try.underlying57
  ac := Try.isAgg57
  zc := Try.sizeOf57
  vc := Try.zeroValue57 }
end Go.Proofs.Ytcndihekpdebhaa.Sts
