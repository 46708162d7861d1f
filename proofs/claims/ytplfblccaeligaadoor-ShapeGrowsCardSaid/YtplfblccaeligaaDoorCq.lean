/- Layer 8: a card's cells, how many and each one cell. -/
import Derived.Test.YtplfblccaeligaaDoorTblRef3
namespace Go.Proofs.YtplfblccaeligaaDoor
open Go.RowKit Ex Mx Wx
set_option maxRecDepth 100000
theorem cq_size {Q : Nat → Prop} {w : World} {d : Nat} {cs : Array Value} {c : CardT} (h : ReadsCQ Q w d cs c) : cs.size = 13 := by
  obtain ⟨_, _, _, _, _, _, A, cc, rfl, _⟩ := h
  simp [cardC, arr_size]
theorem cq_one {Q : Nat → Prop} {w : World} {d : Nat} {cs : Array Value} {c : CardT} (h : ReadsCQ Q w d cs c) : cs.all (·.oneCell') = true := by
  obtain ⟨_, _, _, _, _, _, A, cc, rfl, _⟩ := h
  exact card_one _ _ _ _
theorem cq_info {Q : Nat → Prop} {w : World} {d : Nat} {cs : Array Value} {c : CardT} (h : ReadsCQ Q w d cs c) : (Tryd.prog.info? 55).map (·.size) = some cs.size := by rw [cq_size h]; exact size13
end Go.Proofs.YtplfblccaeligaaDoor
