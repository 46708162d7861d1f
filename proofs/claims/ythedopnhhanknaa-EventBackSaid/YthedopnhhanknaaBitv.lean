/- Bits of whole numbers, as sums. Over no program. -/
import Derived.WalkKit
import Derived.Laws.Bits64b
import Derived.Lib.Varint
import Derived.Lib.EndianBits
namespace Go.Proofs.Ythedopnhhanknaa
namespace Wx
theorem not_i64 (n : Int) (h : -9223372036854775808 ≤ n) (h' : n ≤ 9223372036854775807) : bits .xor .i64 (-1) n = -n - 1 := by
  show IntKind.i64.wrap ((BitVec.ofInt 64 (-1) ^^^ BitVec.ofInt 64 n).toNat : Int) = _
  have e : BitVec.ofInt 64 (-1) = BitVec.allOnes 64 := by decide
  rw [e, BitVec.allOnes_xor, BitVec.toNat_not, BitVec.toNat_ofInt, IntKind.wrap_i64]
  omega
theorem or_one (x : Int) (h0 : 0 ≤ x) (h1 : x < 18446744073709551616) (h2 : x % 2 = 0) : bits .or .u64 x 1 = x + 1 :=
  bits_join .u64 64 (by decide) wraps_u64 1 x 1 h0 (by omega) (by omega) (by decide) (by decide) (by decide)
theorem and_one (x : Int) (h0 : 0 ≤ x) (h1 : x < 18446744073709551616) : bits .and .u64 x 1 = x % 2 :=
  bits_mask .u64 64 (by decide) wraps_u64 1 (by decide) x h0 (by omega)
theorem or_128 (x : Int) (h0 : 0 ≤ x) (h1 : x < 256) : bits .or .u8 x 128 = x % 128 + 128 := Lib.u8_or128_any x h0 h1
theorem without_all : ∀ a : Fin 256, bits .andNot .u8 ((a.val : Nat) : Int) 128 = ((a.val % 128 : Nat) : Int) := by decide +kernel
theorem without_128 (x : Int) (h0 : 0 ≤ x) (h1 : x < 256) : bits .andNot .u8 x 128 = x % 128 := by
  obtain ⟨n, rfl⟩ := Int.eq_ofNat_of_zero_le h0
  have := without_all ⟨n, by omega⟩
  simp only at this
  rw [this]; omega
theorem pow_128 (k : Nat) : (2 : Int) ^ (7 * k) = ((128 ^ k : Nat) : Int) := by
  rw [Int.pow_mul]; norm_cast
/-- The next seven bits. -/
theorem or_next (y c k : Nat) (hy : y < 128 ^ k) (hc : y + 128 ^ k * c < 18446744073709551616) :
    bits .or .u64 (y : Int) (IntKind.u64.wrap ((c : Int) * 2 ^ (7 * k))) = ((y + 128 ^ k * c : Nat) : Int) := by
  have e : IntKind.u64.wrap ((c : Int) * 2 ^ (7 * k)) = ((128 ^ k * c : Nat) : Int) := by
    rw [pow_128, ← Int.natCast_mul, Nat.mul_comm, IntKind.wrap_u64]
    generalize 128 ^ k * c = q at *
    omega
  rw [e, bits_or_u64_nat y _ (by omega) (by omega)]
  have h2 : (128 : Nat) ^ k = 2 ^ (7 * k) := by rw [Nat.pow_mul]
  congr 1
  rw [Nat.or_comm, h2, ← Nat.two_pow_add_eq_or_of_lt (by rw [← h2]; exact hy), Nat.add_comm]
end Wx
end Go.Proofs.Ythedopnhhanknaa
