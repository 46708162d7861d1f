/- What the library says of math/bits.Len64, at this program's numbers. -/
import Derived.Shelf.Strconv.Itoa0
import Derived.Test.YtihbdbgmijkjmaaDoorProg
namespace Go.Proofs.YtihbdbgmijkjmaaDoor
open Go.Shelf
def ren129 : Ren := ⟨fun | 129 => 61 | n => n, fun | 53 => 39 | 3 => 3 | 4 => 4 | 46 => 103 | 5 => 5 | 9 => 9 | n => n, fun | n => n⟩
theorem lays129 : Go.Proofs.Lays.n129 Tryd.prog ren129 := {
  mixed := by kernel_rfl
  f129 := Tryd.func61.trans (congrArg some (by kernel_rfl))
  t3 := Tryd.underlying3
  a3 := Tryd.isAgg3
  z3 := Tryd.sizeOf3
  v3 := Tryd.zeroValue3
  t4 := Tryd.underlying4
  a4 := Tryd.isAgg4
  z4 := Tryd.sizeOf4
  v4 := Tryd.zeroValue4
  t5 := Tryd.underlying5
  a5 := Tryd.isAgg5
  z5 := Tryd.sizeOf5
  v5 := Tryd.zeroValue5
  t9 := Tryd.underlying9
  a9 := Tryd.isAgg9
  z9 := Tryd.sizeOf9
  v9 := Tryd.zeroValue9
  t46 := Tryd.underlying103
  a46 := Tryd.isAgg103
  z46 := Tryd.sizeOf103
  v46 := Tryd.zeroValue103
  t53 := Tryd.underlying39
  a53 := Tryd.isAgg39
  z53 := Tryd.sizeOf39
  v53 := Tryd.zeroValue39 }
theorem len64_any (x : Nat) (h : x < 18446744073709551616) (w : World) :
    Calls Tryd.prog 61 #[.int .u64 x] w fun e w' => e = .returned (.int .i64 (Lib.bitLen x : Nat)) ∧ w = w' :=
  (Any.bits_Len64 lays129 x w (by omega) (by omega)).mono fun _ _ hh => ⟨by rw [hh.1]; rfl, hh.2.symm⟩
end Go.Proofs.YtihbdbgmijkjmaaDoor
