/- Contracts of mulligannum: an error's number, the same bytes, the same numbers. -/
import Derived.Test.YtllamlmeklalaaaRows
import Derived.Test.YtllamlmeklalaaaWireMath
import Derived.Test.YtllamlmeklalaaaSl
import Derived.WalkSpells
import Derived.WalkLawsBesides
import Derived.Lib.Hide
import Derived.BigQuiet
import Derived.Deep.QuietTactic
namespace Go.Proofs.Ytllamlmeklalaaa
open Go.RowKit Wx
theorem num_nil (w : World) : Calls Try.prog 10 #[.nilIface] w fun e w' => e = .returned (.int .i64 0) ∧ w = w' := by
  go_enter Try.func10, Try.ntmps10
  go_wp2_with fail
  go_ret
  exact ⟨rfl, rfl⟩
theorem num_err (k : Int) (hk : k ≠ 0) (w : World) : Calls Try.prog 10 #[.iface 43 (.int .i64 k)] w fun e w' => e = .returned (.int .i64 k) ∧ w = w' := by
  have h1 : (k != 0) = true := by simpa using hk
  have ht : ∀ (w : World), (Instr.typeAssert (.iface 43 (.int .i64 k)) 25 43 true).run Try.prog w = .ok (.tuple #[.int .i64 k, .bool true]) w := fun _ => by kernel_rfl
  clear hk
  go_enter Try.func10, Try.ntmps10
  go_wp2_with fail
  go_ret
  exact ⟨rfl, rfl⟩
theorem ints_take {l1 l2 : List Int} {k : Nat} (h1 : k < l1.length) (h2 : k < l2.length) (h : l1.take k = l2.take k) (he : l1[k] = l2[k]) : l1.take (k + 1) = l2.take (k + 1) := by
  rw [List.take_succ_eq_append_getElem h1, List.take_succ_eq_append_getElem h2, h, he]
set_option maxHeartbeats 400000 in
theorem ints_any (A1 A2 : Option Addr) (n1 c1 n2 c2 : Nat) (l1 l2 : List Int) (w : World) (B1 B2 : Nat) (h1 : Nums .i64 w B1 A1 n1 l1) (h2 : Nums .i64 w B2 A2 n2 l2) (hn1 : n1 ≤ 1000000000) (hn2 : n2 ≤ 1000000000) :
    Calls Try.prog 16 #[.slice A1 n1 c1, .slice A2 n2 c2] w fun e w' => e = .returned (.bool (decide (l1 = l2))) ∧ ∃ m, w' = w.drewN m := by
  obtain rfl := h1.len
  obtain rfl := h2.len
  have H1 := Lib.hid h1
  have H2 := Lib.hid h2
  clear h1 h2
  by_cases hne : l1.length = l2.length
  · have hb : ((l1.length : Int) != (l2.length : Int)) = false := by rw [bne_eq_false_iff_eq]; omega
    have HL := Lib.hid hne
    have hle : l1.length ≤ l2.length := by omega
    clear hne
    go_enter Try.func16, Try.ntmps16
    go_wp2_with fail
    go_loopw [13] (fun i wr => ∃ k m : Nat, i = .int .i64 ((k : Nat) : Int) ∧ k ≤ l1.length ∧ wr = w.drewN m ∧ Hid (l1.take k = l2.take k)) (fun i _ => l1.length - (intOf i).toNat)
    case atStart => exact ⟨0, 0, rfl, by omega, rfl, rfl⟩
    case round =>
      obtain ⟨k, m, rfl, hk, rfl, HT⟩ := hrel
      by_cases hlt : k < l1.length
      · obtain ⟨a1, e1, _, g1⟩ := H1.out.at_ hlt
        obtain ⟨a2, e2, _, g2⟩ := H2.out.at_ (show k < l2.length by omega)
        have HN := ints_take hlt (show k < l2.length by omega) HT.out
        obtain ⟨x, hx⟩ : ∃ x, x = l1[k] := ⟨_, rfl⟩
        obtain ⟨y, hy⟩ : ∃ y, y = l2[k]'(show k < l2.length by omega) := ⟨_, rfl⟩
        rw [← hx] at g1
        rw [← hy] at g2
        subst e1 e2
        have b0 : (0 : Int) ≤ (k : Int) := by omega
        have b1 : (k : Int) < (l1.length : Int) := by omega
        have b2 : (k : Int) < (l2.length : Int) := by omega
        have HN := Lib.hid HN
        have HX := Lib.hid hx
        have HY := Lib.hid hy
        clear hx hy
        by_cases hxy : x = y
        · have hb2 : (x != y) = false := by simpa using hxy
          have HXY := Lib.hid hxy
          clear hxy
          go_wp2_with fail
          go_quiet (fail)
          go_wp2_with fail
          go_roundw
          case rel => exact ⟨k + 1, _, by go_num, by omega, rfl, HN.out (by rw [← HX.out, ← HY.out]; exact HXY.out)⟩
          case measure => simp [intOf]; omega
        · have hb2 : (x != y) = true := by simpa using hxy
          have HD : Hid (false = decide (l1 = l2)) := by
            show _ = _
            rw [eq_comm, decide_eq_false_iff_not]; intro e; apply hxy
            rw [HX.out, HY.out]; subst e; rfl
          clear hxy
          go_wp2_with fail
          go_quiet (fail)
          go_wp2_with fail
          go_ret
          rw [← HD.out]
          exact ⟨rfl, m + nq, by rw [World.drewN_drewN]⟩
      · have HD : Hid (true = decide (l1 = l2)) := by
          show _ = _
          have h := HT.out
          have h5 := HL.out
          rw [List.take_of_length_le (by omega), List.take_of_length_le (by omega)] at h
          rw [eq_comm, decide_eq_true_iff]; exact h
        go_wp2_with fail
        go_ret
        rw [← HD.out]
        exact ⟨rfl, m, rfl⟩
  · have hb : ((l1.length : Int) != (l2.length : Int)) = true := by rw [bne_iff_ne]; omega
    have HD : Hid (false = decide (l1 = l2)) := by
      show _ = _
      rw [eq_comm, decide_eq_false_iff_not]; intro e; exact hne (by rw [e])
    clear hne
    go_enter Try.func16, Try.ntmps16
    go_wp2_with fail
    go_ret
    rw [← HD.out]
    exact ⟨rfl, 0, rfl⟩
end Go.Proofs.Ytllamlmeklalaaa
