/- Layer 6: what effect's calls answer, as one statement: the laws' walks take it, the code's walks prove it. -/
import Derived.Test.YtjijnapphbeahaaTreeHas
import Derived.Test.YtjijnapphbeahaaTreeCheck
import Derived.Test.YtjijnapphbeahaaTreeTake
import Derived.Test.YtjijnapphbeahaaTreeSame
import Derived.Test.YtjijnapphbeahaaTreeSpoil
import Derived.Test.YtjijnapphbeahaaNum
namespace Go.Proofs.Ytjijnapphbeahaa
open Go.RowKit Ex Wx
/-- The number of what is wrong with an effect. -/
def chkTop (t : ET) (tg : Int) : Int := if ¬ (0 ≤ tg ∧ tg ≤ 5) then 6 else chkT t tg 1
/-- What Copy answers: the same, in cells of its own. -/
def CopyPost (t : ET) (w : World) (e : Ending) (w' : World) : Prop := ∃ d cs, e = .returned (.agg cs) ∧ Reads w'.heap.size w' d cs t ∧ Apart w.heap.size w'.heap.size w' d cs ∧ Below w.heap.size w w'
/-- What Take answers of bytes: the effect, what stands behind, an error. -/
def TakePost (l : List Int) (w : World) (e : Ending) (w' : World) : Prop := ∃ d cs A n c, e = .returned (.tuple #[.agg cs, .slice A n c, errV (tkT 8 l).2.2]) ∧ Reads w'.heap.size w' d cs (tkT 8 l).1 ∧
  Nums .u8 w' w'.heap.size A n (if (tkT 8 l).2.2 = 0 then l.drop (tkT 8 l).2.1 else []) ∧ n ≤ c ∧ Below w.heap.size w w'
/-- In every world that keeps what stands in z; of effects that are not larger than is looked at. -/
structure EffSaid (z : World) : Prop where
  check : ∀ (d : Nat) (t : ET) (cs : Array Value) (tg : Int) (w : World), Reads w.heap.size w d cs t → sizeT t ≤ 300 → In64 tg → Below z.heap.size z w →
    Calls Try.prog 11 #[.agg cs, .int .i64 tg] w fun e w' => e = .returned (errV (chkTop t tg)) ∧ Below w.heap.size w w'
  size : ∀ (d : Nat) (t : ET) (cs : Array Value) (w : World), Reads w.heap.size w d cs t → sizeT t ≤ 300 → Below z.heap.size z w →
    Calls Try.prog 13 #[.agg cs] w fun e w' => e = .returned (.int .i64 (sizeT t : Nat)) ∧ Below w.heap.size w w'
  depth : ∀ (d : Nat) (t : ET) (cs : Array Value) (w : World), Reads w.heap.size w d cs t → sizeT t ≤ 300 → Below z.heap.size z w →
    Calls Try.prog 14 #[.agg cs] w fun e w' => e = .returned (.int .i64 (depthT t : Nat)) ∧ Below w.heap.size w w'
  has : ∀ (d : Nat) (t : ET) (cs : Array Value) (op : Int) (w : World), Reads w.heap.size w d cs t → sizeT t ≤ 300 → In64 op → Below z.heap.size z w →
    Calls Try.prog 15 #[.agg cs, .int .i64 op] w fun e w' => e = .returned (.bool (hasT op t)) ∧ Below w.heap.size w w'
  same : ∀ (d : Nat) (t : ET) (cs : Array Value) (d' : Nat) (t' : ET) (cs' : Array Value) (w : World), Reads w.heap.size w d cs t → Reads w.heap.size w d' cs' t' → sizeT t ≤ 300 → sizeT t' ≤ 300 → Below z.heap.size z w →
    Calls Try.prog 24 #[.agg cs, .agg cs'] w fun e w' => e = .returned (.bool (sameT t t')) ∧ Below w.heap.size w w'
  copy : ∀ (d : Nat) (t : ET) (cs : Array Value) (w : World), Reads w.heap.size w d cs t → sizeT t ≤ 300 → Below z.heap.size z w → Calls Try.prog 23 #[.agg cs] w (CopyPost t w)
  bytes : ∀ (d : Nat) (t : ET) (cs : Array Value) (w : World), Reads w.heap.size w d cs t → sizeT t ≤ 300 → Below z.heap.size z w → Calls Try.prog 20 #[.agg cs] w (MadeB .u8 5 w w.heap.size (btT t))
  take : ∀ (A : Option Addr) (n c : Nat) (l : List Int) (w : World) (B : Nat), Nums .u8 w B A n l → byB l → n ≤ c → n ≤ 100000 → B ≤ w.heap.size → Below z.heap.size z w → Calls Try.prog 17 #[.slice A n c] w (TakePost l w)
theorem num_by (k : Int) (w : World) : Calls Try.prog 10 #[errV k] w fun e w' => e = .returned (.int .i64 k) ∧ w = w' := by
  unfold errV
  split
  · rename_i h; subst h; exact num_nil w
  · rename_i h; exact num_err k h w
theorem is_by (k want : Int) (w : World) : Calls Try.prog 27 #[errV k, .int .i64 want] w fun e w' => e = .returned (.bool (k == want)) ∧ w = w' := by
  go_enter Try.func27, Try.ntmps27
  go_wp2_with fail
  refine (num_by k _).mono ?_
  rintro e w2 ⟨rfl, rfl⟩
  go_wp2_with fail
  go_ret
  exact ⟨rfl, rfl⟩
set_option linter.unusedSimpArgs false in
set_option maxRecDepth 100000 in
theorem checkTopRef_any (d : Nat) (t : ET) (cs : Array Value) (tg : Int) (w : World) (hr : Reads w.heap.size w d cs t) (hs : sizeT t ≤ 300) :
    Calls Try.prog 12 #[.agg cs, .int .i64 tg] w fun e w' => e = .returned (.int .i64 (chkTop t tg)) ∧ Below w.heap.size w w' := by
  have hsx : (Try.prog.info? 24).map (·.size) = some cs.size := by rw [hr.size]; exact size5
  go_enter Try.func12, Try.ntmps12
  go_upto_region 1 with fail
  obtain ⟨w1, hw1⟩ : ∃ w1, w1 = w.alloc (.cells cs 24) := ⟨_, rfl⟩
  have HE := Lib.hid (show EvAt w1 w.heap.size cs by rw [hw1]; exact EvAt.new _ _)
  have hb1 : Below w.heap.size w w1 := by rw [hw1]; exact (Below.refl _ _).alloc (Nat.le_refl _) _
  rw [← hw1]
  clear hw1
  have hE := HE.out
  by_cases hk : 0 ≤ tg ∧ tg ≤ 5
  · have HT := Lib.hid (show chkTop t tg = chkT t tg 1 by unfold chkTop; rw [if_neg (not_not_intro hk)])
    have d0 : decide (tg < 0) = false := by simp; omega
    have d1 : decide (5 < tg) = false := by simp; omega
    clear hk
    go_upto_region 3 with fail
    go_wp2_with (refine wpList_load_row rfl 24 (.tmp 2) rfl w.heap.size rfl 24 _ (0, 0) _ hE Try.underlying24 rfl hsx ?_)
    refine (checkRef_any d t cs w1 tg 1 (hr.grow hb1) (by omega) (by omega)).mono ?_
    rintro e w2 ⟨rfl, hb2⟩
    go_wp2_with fail
    go_ret
    exact ⟨by rw [HT.out]; rfl, keepB hb2 hb1⟩
  · have HT := Lib.hid (show chkTop t tg = 6 by unfold chkTop; rw [if_pos hk])
    have hb : (decide (tg < 0) || decide (5 < tg)) = true := by simp; omega
    clear hk
    go_wp2_with fail
    all_goals go_ret
    all_goals exact ⟨by rw [HT.out]; rfl, hb1⟩
end Go.Proofs.Ytjijnapphbeahaa
