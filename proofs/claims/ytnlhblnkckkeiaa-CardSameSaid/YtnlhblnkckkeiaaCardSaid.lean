/- Layer 7: what card's calls answer, as one statement: the laws' walks take it, the code's walks prove it. -/
import Derived.Test.YtnlhblnkckkeiaaCardChk
import Derived.Test.YtnlhblnkckkeiaaCardCards
import Derived.Test.YtnlhblnkckkeiaaCardMade
namespace Go.Proofs.Ytnlhblnkckkeiaa
open Go.RowKit Ex Mx
/-- In every world that keeps what stands in z; of cards that are not larger than is looked at. -/
structure CardSaid (z : World) : Prop where
  check : ∀ (d : Nat) (c : CardT) (cs : Array Value) (w : World), ReadsC w.heap.size w d cs c → SmallC c → Below z.heap.size z w →
    Calls Try.prog 10 #[.agg cs] w fun e w' => e = .returned (errV (chkC c)) ∧ Below w.heap.size w w'
  uses : ∀ (d : Nat) (c : CardT) (cs : Array Value) (wh : Int) (w : World), ReadsC w.heap.size w d cs c → SmallC c → In64 wh → Below z.heap.size z w →
    Calls Try.prog 13 #[.agg cs, .int .i64 wh] w (fun e w' => ∃ A m cc, e = .returned (.slice A m cc) ∧ Nums .i64 w' w'.heap.size A m (usesL c.abs wh) ∧ m ≤ cc ∧ Below w.heap.size w w')
  aims : ∀ (d : Nat) (c : CardT) (cs : Array Value) (w : World), ReadsC w.heap.size w d cs c → SmallC c → Below z.heap.size z w →
    Calls Try.prog 15 #[.agg cs] w fun e w' => e = .returned (.int .i64 (aimsL c.abs)) ∧ Below w.heap.size w w'
  same : ∀ (d : Nat) (c : CardT) (cs : Array Value) (d' : Nat) (c' : CardT) (cs' : Array Value) (w : World), ReadsC w.heap.size w d cs c → ReadsC w.heap.size w d' cs' c' → SmallC c → SmallC c' → Below z.heap.size z w →
    Calls Try.prog 18 #[.agg cs, .agg cs'] w fun e w' => e = .returned (.bool (sameC c c')) ∧ Below w.heap.size w w'
  copy : ∀ (d : Nat) (c : CardT) (cs : Array Value) (w : World), ReadsC w.heap.size w d cs c → SmallC c → Below z.heap.size z w →
    Calls Try.prog 17 #[.agg cs] w (fun e w' => ∃ d' cs', e = .returned (.agg cs') ∧ ReadsCQ (fun b => w.heap.size ≤ b ∧ b < w'.heap.size) w' d' cs' c ∧ Below w.heap.size w w')
/-- The chapter's example, with this much Tough. -/
def exD (t : Int) : CardT := ⟨1, 0, false, fun _ => 0, 1, t, 0, []⟩
theorem exD_good : GoodC (fun _ => 0) := fun i _ => ⟨Int.le_refl 0, (show (0 : Int) ≤ 1000 by decide)⟩
theorem exD_one : chkC (exD 1) = 0 := by
  unfold chkC
  rw [if_neg (not_not_intro (by unfold KindC exD; simp)), if_neg (not_not_intro ⟨exD_good, by decide, fun _ => by decide⟩), if_neg (not_not_intro (by unfold BodyC exD; simp)), if_neg (not_not_intro (by unfold ShapeC exD; simp [usesL, usesK]))]
  rfl
theorem exD_none : chkC (exD 0) = 1 := by
  unfold chkC
  rw [if_neg (not_not_intro (by unfold KindC exD; simp)), if_neg (not_not_intro ⟨exD_good, by decide, fun _ => by decide⟩), if_pos (by unfold BodyC exD; simp)]
theorem exD_small (t : Int) : SmallC (exD t) := ⟨by simp [exD], fun i a h => by simp [exD] at h⟩
abbrev exDC (t : Int) : Array Value := #[.int .i64 1, .int .i64 0, .bool false, .int .i64 0, .int .i64 0, .int .i64 0, .int .i64 0, .int .i64 0, .int .i64 0, .int .i64 1, .int .i64 t, .int .i64 0, .slice none 0 0]
theorem exD_reads (B : Nat) (w : World) (t : Int) (h0 : 0 ≤ t) (h1 : t ≤ 1) : ReadsC B w 1 (exDC t) (exD t) :=
  ⟨⟨by simp [exD], by simp [exD]⟩, ⟨by simp [exD], by simp [exD]⟩, (fun i hi => ⟨by simp [exD], by simp [exD]⟩), ⟨by simp [exD], by simp [exD]⟩, ⟨by simp only [exD]; omega, by simp only [exD]; omega⟩, ⟨by simp [exD], by simp [exD]⟩, none, 0,
    by unfold cardC; rw [arr6]; rfl, by simp [exD], by unfold maxLen; omega, fun i a h => by simp [exD] at h⟩
end Go.Proofs.Ytnlhblnkckkeiaa
