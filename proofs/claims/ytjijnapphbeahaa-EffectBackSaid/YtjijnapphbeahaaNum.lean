/- Contracts of mulligannum: an error's number, the same bytes, the same numbers. -/
import Derived.Test.YtjijnapphbeahaaRows
import Derived.Test.YtjijnapphbeahaaWireMath
import Derived.Test.YtjijnapphbeahaaSl
import Derived.WalkSpells
import Derived.WalkLawsBesides
import Derived.Lib.Hide
import Derived.BigQuiet
import Derived.Deep.QuietTactic
namespace Go.Proofs.Ytjijnapphbeahaa
open Go.RowKit Wx
theorem num_nil (w : World) : Calls Try.prog 10 #[.nilIface] w fun e w' => e = .returned (.int .i64 0) ∧ w = w' := by
  go_enter Try.func10, Try.ntmps10
  go_wp2_with fail
  go_ret
  exact ⟨rfl, rfl⟩
theorem num_err (k : Int) (hk : k ≠ 0) (w : World) : Calls Try.prog 10 #[.iface 51 (.int .i64 k)] w fun e w' => e = .returned (.int .i64 k) ∧ w = w' := by
  have h1 : (k != 0) = true := by simpa using hk
  have ht : ∀ (w : World), (Instr.typeAssert (.iface 51 (.int .i64 k)) 31 51 true).run Try.prog w = .ok (.tuple #[.int .i64 k, .bool true]) w := fun _ => by kernel_rfl
  clear hk
  go_enter Try.func10, Try.ntmps10
  go_wp2_with fail
  go_ret
  exact ⟨rfl, rfl⟩
theorem string_at {w : World} {B n c : Nat} {A : Option Addr} {l : List Int} (h : Nums .u8 w B A n l) : (convert 37 9 (.slice A n c)).run Try.prog w = .ok (.string (strOfNums l)) w :=
  run_string_of h Try.underlying37 Try.underlying5 Try.underlying9
theorem numBytes_same (A1 A2 : Option Addr) (n1 c1 n2 c2 : Nat) (l : List Int) (w : World) (B1 B2 : Nat) (h1 : Nums .u8 w B1 A1 n1 l) (h2 : Nums .u8 w B2 A2 n2 l) :
    Calls Try.prog 19 #[.slice A1 n1 c1, .slice A2 n2 c2] w fun e w' => e = .returned (.bool true) ∧ w = w' := by
  have g1 := string_at (c := c1) h1
  have g2 := string_at (c := c2) h2
  clear h1 h2
  obtain ⟨s, hs⟩ : ∃ s, s = strOfNums l := ⟨_, rfl⟩
  rw [← hs] at g1 g2
  clear hs
  go_enter Try.func19, Try.ntmps19
  go_wp2_with fail
  go_ret
  exact ⟨by simp, rfl⟩
end Go.Proofs.Ytjijnapphbeahaa
