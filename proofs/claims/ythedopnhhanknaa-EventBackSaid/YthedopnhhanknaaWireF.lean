/- Layer 2: contracts of Take and TakeList. -/
import Derived.Test.YthedopnhhanknaaWireC
import Derived.Test.YthedopnhhanknaaWireE
namespace Go.Proofs.Ythedopnhhanknaa
open Go.RowKit Wx
set_option maxHeartbeats 400000 in
theorem take_bad (A : Option Addr) (n c : Nat) (l : List Int) (w : World) (B : Nat) (hN : Nums .u8 w B A n l) (hb : byB l) (hn : n ≤ 100000000) (e0 : Int) (h0 : e0 ≠ 0) (hr : tk l = (0, 0, e0)) :
    Calls Try.prog 39 #[.slice A n c] w fun e w' => e = .returned (.tuple #[.int .i64 0, .slice none 0 0, .iface 65 (.int .i64 e0)]) ∧ w = w' := by
  have HN := Lib.hid hN
  have HB := Lib.hid hb
  have HR := Lib.hid hr
  have H0 := Lib.hid h0
  clear hN hb hr h0
  go_enter Try.func39, Try.ntmps39
  go_wp2_with fail
  refine (first_bad A n c l _ B HN.out HB.out (by omega) e0 H0.out HR.out).mono ?_
  rintro e w' ⟨rfl, rfl⟩
  go_wp2_with fail
  go_ret3
  exact ⟨rfl, rfl⟩
set_option maxHeartbeats 400000 in
theorem take_ok (A : Option Addr) (n c : Nat) (l : List Int) (w : World) (B : Nat) (hN : Nums .u8 w B A n l) (hc : n ≤ c) (hb : byB l) (hB : B ≤ w.heap.size) (hn : n ≤ 100000000) (z : Int) (k : Nat) (hr : tk l = (z, k, 0)) :
    Calls Try.prog 39 #[.slice A n c] w fun e w' => ∃ A' m c', e = .returned (.tuple #[.int .i64 z, .slice A' m c', .nilIface]) ∧ Own .u8 5 w' w.heap.size A' m c' (l.drop k) ∧ Below w.heap.size w w' := by
  have hk : k ≤ n := by
    rcases tk_range hb hr with ⟨_, _, h⟩ | ⟨_, h1, h2, _⟩
    · omega
    · rw [← hN.len]; exact h2
  obtain ⟨A1, hsl, hN1⟩ := cut_from (P := Try.prog) hN hc hk 48 (by kernel_rfl) (fun _ => by kernel_rfl)
  have HN := Lib.hid hN
  have HN1 := Lib.hid hN1
  have HB := Lib.hid hb
  have HR := Lib.hid hr
  clear hN hN1 hb hr
  go_enter Try.func39, Try.ntmps39
  go_wp2_with fail
  refine (first_ok A n c l _ B HN.out HB.out (by omega) z k HR.out).mono ?_
  rintro e w' ⟨rfl, rfl⟩
  go_wp2_with fail
  refine (withRoom_any A1 _ _ _ 0 _ B HN1.out hB (by omega) (by omega) (by omega)).mono ?_
  rintro e w1 ⟨A2, m2, c2, rfl, hown2, hb2⟩
  go_wp2_with fail
  go_ret3
  exact ⟨A2, m2, c2, rfl, hown2, hb2⟩
end Go.Proofs.Ythedopnhhanknaa
