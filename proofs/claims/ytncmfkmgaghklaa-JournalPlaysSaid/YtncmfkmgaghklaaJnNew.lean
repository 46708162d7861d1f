/- Layer 14: the document's New; appends of parts as runs. -/
import Derived.Test.YtncmfkmgaghklaaJnOwn
import Derived.Test.YtncmfkmgaghklaaEvInv
namespace Go.Proofs.Ytncmfkmgaghklaa
open Go.RowKit Ex
set_option maxRecDepth 100000
theorem jsize (A : Option Addr) (n c : Nat) (x : Int) : (Try.prog.info? 29).map (·.size) = some (#[Value.slice A n c, Value.int .i64 x] : Array Value).size := by kernel_rfl
theorem jone (A : Option Addr) (n c : Nat) (x : Int) : (#[Value.slice A n c, Value.int .i64 x] : Array Value).all (·.oneCell') = true := by simp [Value.oneCell']
theorem rdQ_one {w : World} {g : Nat} {q : QT} (h : w.heap[g]? = some (.cells #[.int .i64 q.num, q.sl.v] 66 (0, 0))) : RdQ w.heap.size w (some ⟨g, 0, none⟩) [q] := fun i o hi => by
  cases i with
  | succ i => simp at hi
  | zero =>
    obtain rfl : q = o := by simpa using hi
    refine ⟨g, 0, rfl, (Array.getElem?_eq_some_iff.1 h).1, fun j v hv => ?_⟩
    rw [show 0 + 0 * 2 + j = j by omega, cell_of_row w g j _ _ _ h]
    match j, hv with
    | 0, hv => exact hv
    | 1, hv => exact hv
    | j + 2, hv => simp [cellQ] at hv
theorem ptQ_one {B : Nat} {w : World} {q : QT} {p : Int × List EvT} (h1 : q.num = p.1) (h2 : q.sl.n ≤ q.sl.c) (h3 : Evs B w q.sl.A q.sl.n p.2) (h4 : N64 p.1) : PtQ B w [q] [p] :=
  ⟨rfl, fun i q' p' hq hp => by
    cases i with
    | succ i => simp at hq
    | zero =>
      obtain rfl : q = q' := by simpa using hq
      obtain rfl : p = p' := by simpa using hp
      exact ⟨h1, h2, h3⟩, fun p' hp => by
      obtain rfl : p' = p := by simpa using hp
      exact h4⟩
theorem PtQ.app {B : Nat} {w : World} {q1 q2 : List QT} {p1 p2 : List (Int × List EvT)} (h1 : PtQ B w q1 p1) (h2 : PtQ B w q2 p2) : PtQ B w (q1 ++ q2) (p1 ++ p2) := by
  refine ⟨by rw [List.length_append, List.length_append, h1.len, h2.len], fun i q p hq hp => ?_, fun p hp => ?_⟩
  · by_cases hi : i < q1.length
    · rw [List.getElem?_append_left hi] at hq
      rw [List.getElem?_append_left (by rw [← h1.len]; exact hi)] at hp
      exact h1.at_ i q p hq hp
    · rw [List.getElem?_append_right (by omega)] at hq
      rw [List.getElem?_append_right (by rw [← h1.len]; omega), ← h1.len] at hp
      exact h2.at_ _ q p hq hp
  · rcases List.mem_append.1 hp with h | h
    · exact h1.i p h
    · exact h2.i p h
theorem PtQ.more {B B' : Nat} {w : World} {l : List QT} {ps : List (Int × List EvT)} (h : PtQ B w l ps) (hB : B ≤ B') : PtQ B' w l ps := ⟨h.len, fun i q p hq hp => by
  obtain ⟨h1, h2, h3⟩ := h.at_ i q p hq hp
  exact ⟨h1, h2, h3.more hB⟩, h.i⟩
set_option linter.unusedSimpArgs false in
set_option maxHeartbeats 0 in
theorem newRef_any (w : World) : Calls Try.prog 10 #[] w fun en w' => ∃ A, en = .returned (.agg #[.slice A 1 1, .int .i64 0]) ∧ OwnQ w' w.heap.size A 1 1 [⟨0, ⟨none, 0, 0⟩⟩] ∧ Below w.heap.size w w' := by
  go_enter Try.func10, Try.ntmps10
  go_upto_region 1 with fail
  obtain ⟨w1, hw1⟩ : ∃ w1, w1 = w.alloc (.cells #[.slice none 0 0, .int .i64 0] 29) := ⟨_, rfl⟩
  have hb1 : Below w.heap.size w w1 := by rw [hw1]; exact (Below.refl _ _).alloc (Nat.le_refl _) _
  have hr1 : w1.heap[w.heap.size]? = some (.cells #[.slice none 0 0, .int .i64 0] 29 (0, 0)) := by rw [hw1]; exact heap_alloc_new _ _
  rw [← hw1]
  obtain ⟨gr, hgr⟩ : ∃ g, g = w.heap.size := ⟨_, rfl⟩
  rw [← hgr] at hr1
  rw [← hgr]
  have hwr : w.heap.size ≤ gr := by omega
  have hlr : gr < w1.heap.size := (Array.getElem?_eq_some_iff.1 hr1).1
  clear hw1 hgr
  have hb2 : Below w1.heap.size w1 (w1.alloc (.cells #[.int .i64 0, .slice none 0 0] 66)) := (Below.refl _ _).alloc (Nat.le_refl _) _
  have hp2 : (w1.alloc (.cells #[.int .i64 0, .slice none 0 0] 66)).heap[w1.heap.size]? = some (.cells #[.int .i64 0, .slice none 0 0] 66 (0, 0)) := heap_alloc_new _ _
  have hr2 := (hb2.block gr hlr).trans hr1
  have hbw := keepB hb2 hb1
  have hsz := jsize (some ⟨w1.heap.size, 0, none⟩) 1 1 0
  have hone := jone (some ⟨w1.heap.size, 0, none⟩) 1 1 0
  go_wp2_with (refine wpList_store_row rfl 29 (.tmp 0) (.tmp 3) rfl gr _ rfl rfl 29 #[.slice none 0 0, .int .i64 0] hr2 hsz rfl hone ?_)
  have hP := Lib.hid (show OwnQ ((w1.alloc (.cells #[.int .i64 0, .slice none 0 0] 66)).setRow gr #[.slice (some ⟨w1.heap.size, 0, none⟩) 1 1, .int .i64 0]) w.heap.size (some ⟨w1.heap.size, 0, none⟩) 1 1 [⟨0, ⟨none, 0, 0⟩⟩] from by
    have hp3 : ((w1.alloc (.cells #[.int .i64 0, .slice none 0 0] 66)).setRow gr #[.slice (some ⟨w1.heap.size, 0, none⟩) 1 1, .int .i64 0]).heap[w1.heap.size]? = some (.cells #[.int .i64 0, .slice none 0 0] 66 (0, 0)) := (setRow_other _ gr w1.heap.size _ (by omega)).trans hp2
    exact ⟨rfl, rfl, .inr ⟨w1.heap.size, 1, _, rfl, hb1.size, hp3, Nat.le_refl _, by unfold maxLen; omega, rfl, rfl⟩⟩)
  refine bodyPost_ret (v := .agg #[.slice (some ⟨w1.heap.size, 0, none⟩) 1 1, .int .i64 0]) ?_ rfl ⟨some ⟨w1.heap.size, 0, none⟩, rfl, hP.out, below_setRow hbw gr _ hwr⟩
  exact results_cellE (ty := 29) (p := 0) (by kernel_rfl) _ _ gr 29 _ (0, 0) _ rfl (setRow_heap _ _ _ _ _ _ hr2) Try.underlying29 rfl hsz
end Go.Proofs.Ytncmfkmgaghklaa
