/- Layer 2: contracts of the small functions: what stands for a number, sizes. -/
import Derived.Test.YthedopnhhanknaaRows
import Derived.Test.YthedopnhhanknaaEvG2
import Derived.Test.YthedopnhhanknaaBitv
import Derived.Test.YthedopnhhanknaaEvG1
import Derived.WalkSpells
import Derived.WalkLawsBesides
import Derived.Lib.Hide
import Derived.Test.YthedopnhhanknaaShelf
namespace Go.Proofs.Ythedopnhhanknaa
open Go.RowKit Wx

theorem ret_int {k : IntKind} {a b : Int} (h : a = b) : Ending.returned (.int k a) = .returned (.int k b) := by rw [h]
theorem fold_neg (n : Int) (h : i64B n) (h0 : n < 0) : bits .or .u64 (IntKind.u64.wrap (IntKind.u64.wrap (bits .xor .i64 (-1) n) * 2)) 1 = ((stn n : Nat) : Int) := by
  unfold i64B at h
  rw [not_i64 n h.1 h.2, IntKind.wrap_u64, IntKind.wrap_u64, or_one _ (by omega) (by omega) (by omega)]
  unfold stn; rw [if_neg (by omega)]; omega
theorem fold_pos (n : Int) (h : i64B n) (h0 : ¬ n < 0) : IntKind.u64.wrap (IntKind.u64.wrap n * 2) = ((stn n : Nat) : Int) := by
  unfold i64B at h
  rw [IntKind.wrap_u64, IntKind.wrap_u64]; unfold stn; rw [if_pos (by omega)]; omega

theorem fold_any (n : Int) (h : i64B n) (w : World) :
    Calls Try.prog 58 #[.int .i64 n] w fun e w' => e = .returned (.int .u64 (stn n : Nat)) ∧ w = w' := by
  by_cases h0 : n < 0
  · have HV := Lib.hid (fold_neg n h h0)
    go_enter Try.func58, Try.ntmps58
    go_wp2_with fail
    go_ret
    exact ⟨ret_int HV.out, rfl⟩
  · have HV := Lib.hid (fold_pos n h h0)
    go_enter Try.func58, Try.ntmps58
    go_wp2_with fail
    go_ret
    exact ⟨ret_int HV.out, rfl⟩
theorem stands_any (n : Int) (h : i64B n) (w : World) :
    Calls Try.prog 37 #[.int .i64 n] w fun e w' => e = .returned (.int .u64 (stn n : Nat)) ∧ w = w' := by
  have hb := h
  unfold i64B at hb
  obtain ⟨hb1, hb2⟩ := hb
  by_cases h0 : 0 ≤ n
  · have HV : Hid (2 * n = ((stn n : Nat) : Int)) := by show _ = _; unfold stn; rw [if_pos h0]; omega
    go_enter Try.func37, Try.ntmps37
    go_wp2_with fail
    go_ret
    exact ⟨ret_int HV.out, rfl⟩
  · have HV : Hid (2 * -(n + 1) + 1 = ((stn n : Nat) : Int)) := by show _ = _; unfold stn; rw [if_neg h0]; omega
    go_enter Try.func37, Try.ntmps37
    go_wp2_with fail
    go_ret
    exact ⟨ret_int HV.out, rfl⟩
theorem unfold_any (x : Nat) (h : x < 18446744073709551616) (w : World) :
    Calls Try.prog 60 #[.int .u64 x] w fun e w' => e = .returned (.int .i64 (unf x)) ∧ w = w' := by
  have ha := and_one x (by omega) (by omega)
  by_cases h0 : x % 2 = 1
  · have ht : (bits .and .u64 (x : Int) 1 == 1) = true := by rw [ha, beq_iff_eq]; omega
    have HV : Hid (bits .xor .i64 (-1) ((x : Int) / 2) = unf x) := by
      show _ = _
      rw [not_i64 _ (by omega) (by omega)]; unfold unf; rw [if_neg (by omega)]; omega
    clear ha h0
    go_enter Try.func60, Try.ntmps60
    go_wp2_with fail
    go_ret
    exact ⟨ret_int HV.out, rfl⟩
  · have ht : (bits .and .u64 (x : Int) 1 == 1) = false := by rw [ha, beq_eq_false_iff_ne]; omega
    have HV : Hid ((x : Int) / 2 = unf x) := by
      show _ = _
      unfold unf; rw [if_pos (by omega)]; omega
    clear ha h0
    go_enter Try.func60, Try.ntmps60
    go_wp2_with fail
    go_ret
    exact ⟨ret_int HV.out, rfl⟩
theorem size_any (n : Int) (h : i64B n) (w : World) :
    Calls Try.prog 52 #[.int .i64 n] w fun e w' => e = .returned (.int .i64 ((bts n).length : Nat)) ∧ w = w' := by
  have HB := Lib.hid (bts_bits h)
  have HX := Lib.hid (stn_lt h)
  have hle : Lib.bitLen (stn n) ≤ 64 := Lib.bitLen_le _ 64 (by omega) (stn_lt h)
  obtain ⟨x, hx⟩ : ∃ x, x = stn n := ⟨_, rfl⟩
  rw [← hx] at HB HX hle
  obtain ⟨b, hb⟩ : ∃ b, b = Lib.bitLen x := ⟨_, rfl⟩
  rw [← hb] at HB hle
  have Hx := Lib.hid hx
  have Hb := Lib.hid hb
  clear hx hb
  go_enter Try.func52, Try.ntmps52
  go_wp2_with fail
  refine (fold_any n h _).mono ?_
  rintro e w' ⟨rfl, rfl⟩
  rw [← Hx.out]
  go_wp2_with fail
  refine (len64_any x HX.out _).mono ?_
  rintro e w' ⟨rfl, rfl⟩
  rw [← Hb.out]
  by_cases h1 : 1 ≤ b
  · go_wp2_with fail
    go_ret
    refine ⟨ret_int ?_, rfl⟩
    rw [HB.out]; omega
  · go_wp2_with fail
    go_ret
    refine ⟨ret_int ?_, rfl⟩
    rw [HB.out]; omega
end Go.Proofs.Ythedopnhhanknaa
