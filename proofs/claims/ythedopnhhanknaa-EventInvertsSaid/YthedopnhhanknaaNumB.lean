/- mulligannum.Bytes. -/
import Derived.Test.YthedopnhhanknaaEvG2
import Derived.Test.YthedopnhhanknaaNum
namespace Go.Proofs.Ythedopnhhanknaa
open Go.RowKit Wx
set_option maxRecDepth 100000
theorem str_beqC {a b : List Int} (ha : byB a) (hb : byB b) (q : Bool) (h : q = decide (a = b)) : ((strOfNums a).toList == (strOfNums b).toList) = q := by
  rw [ByteArray.toList_eq, ByteArray.toList_eq, h, Bool.eq_iff_iff, beq_iff_eq, decide_eq_true_iff, ← str_inj ha hb]
  constructor
  · intro e; exact ByteArray.ext (Array.toList_inj.1 e)
  · intro e; rw [e]
theorem numBytes_any (A1 A2 : Option Addr) (n1 c1 n2 c2 : Nat) (l1 l2 : List Int) (w : World) (B1 B2 : Nat) (h1 : Nums .u8 w B1 A1 n1 l1) (h2 : Nums .u8 w B2 A2 n2 l2) (hb1 : byB l1) (hb2 : byB l2) :
    Calls Try.prog 21 #[.slice A1 n1 c1, .slice A2 n2 c2] w fun e w' => e = .returned (.bool (decide (l1 = l2))) ∧ w = w' := by
  have g1 := string_at (c := c1) h1
  have g2 := string_at (c := c2) h2
  obtain ⟨q, hq⟩ : ∃ q, q = decide (l1 = l2) := ⟨_, rfl⟩
  have hs := str_beqC hb1 hb2 q hq
  rw [← hq]
  clear h1 h2 hb1 hb2 hq
  obtain ⟨s, hs1⟩ : ∃ s, s = strOfNums l1 := ⟨_, rfl⟩
  obtain ⟨t, ht1⟩ : ∃ t, t = strOfNums l2 := ⟨_, rfl⟩
  rw [← hs1] at g1 hs
  rw [← ht1] at g2 hs
  clear hs1 ht1
  go_enter Try.func21, Try.ntmps21
  go_wp2_with fail
  go_ret
  exact ⟨rfl, rfl⟩
end Go.Proofs.Ythedopnhhanknaa
