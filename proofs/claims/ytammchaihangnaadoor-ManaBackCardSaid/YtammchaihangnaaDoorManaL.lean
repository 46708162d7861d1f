/- Layer 4: the laws' walks: ManaTexts, ManaParses. -/
import Derived.Test.YtammchaihangnaaDoorManaI
import Derived.Test.YtammchaihangnaaDoorManaE
import Derived.Test.YtammchaihangnaaDoorNumE
namespace Go.Proofs.YtammchaihangnaaDoor
open Go.RowKit Mx
attribute [local go_sem] arr_get
theorem num_any (k : Int) (w : World) : Calls Tryd.prog 13 #[errV k] w fun e w' => e = .returned (.int .i64 k) ∧ w = w' := by
  unfold errV
  split
  · rename_i h; subst h; exact num_nil w
  · rename_i h; exact num_err k h w
def aliveC : Nat → Int := updI (updI zeroC 0 2) 5 2
theorem alive_lit : #[Value.int .i64 2, Value.int .i64 0, Value.int .i64 0, Value.int .i64 0, Value.int .i64 0, Value.int .i64 2] = arr .i64 6 aliveC := by
  apply Array.ext
  · simp [arr]
  · intro i h1 h2
    simp at h1
    have hc : i = 0 ∨ i = 1 ∨ i = 2 ∨ i = 3 ∨ i = 4 ∨ i = 5 := by omega
    rcases hc with rfl | rfl | rfl | rfl | rfl | rfl <;> simp [arr, aliveC, updI, zeroC]
theorem alive_good : GoodC aliveC := by
  unfold aliveC; exact upd_good (upd_good zero_good (by omega) (by omega)) (by omega) (by omega)
theorem alive_text : textL aliveC = [50, 87, 87] := by
  have h : Lib.decDigits 2 = [50] := by rw [Lib.decDigits]; rfl
  simp [textL, figs, lets, aliveC, updI, zeroC, letN, h, List.replicate]
theorem alive_textR : TextR aliveC [50, 87, 87] 0 := .inr (.inr ⟨alive_good, fun i _ => by unfold aliveC updI zeroC; split <;> (try split) <;> omega, alive_text.symm, rfl⟩)
set_option maxRecDepth 100000 in
theorem alive_true {z : World} (T : TabT z) (w : World) (hz : Below z.heap.size z w) : Calls Tryd.prog 7 #[] w fun e w' => e = .returned (.bool true) ∧ Below w.heap.size w w' := by
  have hl := alive_lit
  go_enter Tryd.func7, Tryd.ntmps7
  go_wp2_with fail
  refine (text_any T aliveC _ (good_wide alive_good) hz).mono ?_
  rintro e w2 ⟨t, k, hT, he, hb⟩
  obtain ⟨rfl, rfl⟩ := textR_one hT alive_textR
  rw [show errV 0 = .nilIface from rfl, show strV [50, 87, 87] = .string ⟨#[50, 87, 87]⟩ from rfl] at he
  subst he
  go_wp2_with fail
  go_ret
  exact ⟨rfl, hb⟩
set_option maxRecDepth 100000 in
theorem manaTexts_walk {w : World} (T : TabT w) (f : Nat → Int) (hw : Wide f) : Calls Tryd.prog 4 #[.agg (arr .i64 6 f)] w fun e w' => e = .returned (.bool true) ∧ Below w.heap.size w w' := by
  have hsz : (Tryd.prog.info? 23).map (·.size) = some (arr .i64 6 f).size := by rw [arr_size]; exact size6
  go_enter Tryd.func4, Tryd.ntmps4
  go_upto_region 1 with fail
  obtain ⟨w1, hw1⟩ : ∃ w1, w1 = w.alloc (.cells (arr .i64 6 f) 23) := ⟨_, rfl⟩
  have ha : ArrAt .i64 6 23 w1 w.heap.size f := by rw [hw1]; exact ArrAt.new w .i64 6 23 f
  have hb1 : Below w.heap.size w w1 := by rw [hw1]; exact (Below.refl _ _).alloc (Nat.le_refl _) _
  rw [← hw1]
  clear hw1
  go_wp2_with fail
  refine (alive_true T _ hb1).mono ?_
  rintro e w2 ⟨rfl, hb2⟩
  have ha2 := ha.keep hb2
  have hbw2 := keepB hb2 hb1
  clear ha hb2 hb1
  go_wp2_with (refine wpList_load_row rfl 23 (.tmp 1) rfl w.heap.size rfl 23 _ (0, 0) _ ha2 Tryd.underlying23 rfl hsz ?_)
  refine (text_any T f _ hw hbw2).mono ?_
  rintro e w3 ⟨t, k, hT, rfl, hb3⟩
  have ha3 := ha2.keep hb3
  have hbw3 := keepB hb3 hbw2
  clear ha2 hb3 hbw2
  go_wp2_with (refine wpList_load_row rfl 23 (.tmp 1) rfl w.heap.size rfl 23 _ (0, 0) _ ha3 Tryd.underlying23 rfl hsz ?_)
  refine (textRef_any f _ hw).mono ?_
  rintro e w4 ⟨t', k', hT', rfl, hb4⟩
  obtain ⟨rfl, rfl⟩ := textR_one hT hT'
  have hbw4 := keepB hb4 hbw3
  clear ha3 hb4 hbw3 hT hT' hsz
  obtain ⟨D, hD⟩ : ∃ D : ByteArray, D = ⟨t.toArray⟩ := ⟨_, rfl⟩
  rw [show strV t = .string D by rw [hD]; rfl]
  clear hD
  go_wp2_with fail
  refine (num_any k _).mono ?_
  rintro e w5 ⟨rfl, rfl⟩
  go_wp2_with fail
  go_ret
  exact ⟨rfl, hbw4⟩
theorem eq6 (f g : Nat → Int) (h : ∀ i, i < 6 → f i = g i) (W : World) : (binOp .eql 23 (.agg (arr .i64 6 f)) (.agg (arr .i64 6 g))).run Tryd.prog W = .ok (.bool true) W := by
  rw [run_eql_arr W 23 3 .i64 6 Tryd.underlying23 Tryd.underlying3 (fun _ => by kernel_rfl) f g, sameI_iff.2 h]
theorem neq6 (f g : Nat → Int) (h : ∀ i, i < 6 → f i = g i) (W : World) : (binOp .neq 23 (.agg (arr .i64 6 f)) (.agg (arr .i64 6 g))).run Tryd.prog W = .ok (.bool false) W := by
  rw [run_neq_arr W 23 3 .i64 6 Tryd.underlying23 Tryd.underlying3 (fun _ => by kernel_rfl) f g, sameI_iff.2 h]; rfl
set_option maxRecDepth 100000 in
theorem manaParses_walk {w : World} (T : TabT w) (s : ByteArray) (ws : s.size ≤ 9223372036854775807) : Calls Tryd.prog 5 #[.string s] w fun e w' => e = .returned (.bool true) ∧ Below w.heap.size w w' := by
  go_enter Tryd.func5, Tryd.ntmps5
  go_wp2_with fail
  refine (alive_true T _ (Below.refl _ _)).mono ?_
  rintro e w2 ⟨rfl, hb2⟩
  by_cases hlen : s.size ≤ 300
  · go_wp2_with fail
    refine (parse_any T s _ hb2).mono ?_
    rintro e w3 ⟨g, k, hP, rfl, hb3⟩
    have hbw3 := keepB hb3 hb2
    clear hb3 hb2
    have hsz : ∀ g, (Tryd.prog.info? 23).map (·.size) = some (arr .i64 6 g).size := fun g => by rw [arr_size]; exact size6
    have h1g := arr_one .i64 6 g
    have hz6 := zero6
    have hnew : (w3.alloc (.cells (arr .i64 6 zeroC) 23)).heap[w3.heap.size]? = some (.cells (arr .i64 6 zeroC) 23 (0, 0)) := heap_alloc_new _ _
    go_upto_region 6 with (refine wpList_store_row rfl 23 (.tmp 3) (.tmp 15) rfl w3.heap.size _ rfl rfl 23 (arr .i64 6 zeroC) hnew (hsz g) (by rw [arr_size, arr_size]) h1g ?_)
    obtain ⟨w4, hw4⟩ : ∃ w4, w4 = (w3.alloc (.cells (arr .i64 6 zeroC) 23)).setRow w3.heap.size (arr .i64 6 g) := ⟨_, rfl⟩
    have hg4 : ArrAt .i64 6 23 w4 w3.heap.size g := by rw [hw4]; exact ArrAt.setRow (show ArrAt .i64 6 23 _ _ _ from hnew) _
    have hb4 : Below w3.heap.size w3 w4 := by rw [hw4]; exact below_setRow ((Below.refl _ _).alloc (Nat.le_refl _) _) _ _ (Nat.le_refl _)
    have hbw4 := keepB hb4 hbw3
    rw [← hw4]
    clear hw4 hnew hb4 hbw3
    go_wp2_with fail
    refine (parseRef_any s _ hlen).mono ?_
    rintro e w5 ⟨g', k', hP', rfl, hb5⟩
    obtain ⟨hgg, rfl⟩ := parseR_one hP hP'
    have hg5 := hg4.keep hb5
    have hbw5 := keepB hb5 hbw4
    clear hg4 hb5 hbw4 hP hP'
    have h1g' := arr_one .i64 6 g'
    have hnew : (w5.alloc (.cells (arr .i64 6 zeroC) 23)).heap[w5.heap.size]? = some (.cells (arr .i64 6 zeroC) 23 (0, 0)) := heap_alloc_new _ _
    go_upto_region 7 with (refine wpList_store_row rfl 23 (.tmp 5) (.tmp 20) rfl w5.heap.size _ rfl rfl 23 (arr .i64 6 zeroC) hnew (hsz g') (by rw [arr_size, arr_size]) h1g' ?_)
    obtain ⟨w6, hw6⟩ : ∃ w6, w6 = (w5.alloc (.cells (arr .i64 6 zeroC) 23)).setRow w5.heap.size (arr .i64 6 g') := ⟨_, rfl⟩
    have hg6 : ArrAt .i64 6 23 w6 w5.heap.size g' := by rw [hw6]; exact ArrAt.setRow (show ArrAt .i64 6 23 _ _ _ from hnew) _
    have hb6 : Below w5.heap.size w5 w6 := by rw [hw6]; exact below_setRow ((Below.refl _ _).alloc (Nat.le_refl _) _) _ _ (Nat.le_refl _)
    have hf6 := hg5.keep hb6
    have hbw6 := keepB hb6 hbw5
    rw [← hw6]
    clear hw6 hnew hb6 hbw5 hg5
    have heq := eq6 g g' hgg
    go_wp2_with (first
      | (refine wpList_load_row rfl 23 (.tmp 3) rfl w3.heap.size rfl 23 _ (0, 0) _ hf6 Tryd.underlying23 rfl (hsz g) ?_)
      | (refine wpList_load_row rfl 23 (.tmp 5) rfl w5.heap.size rfl 23 _ (0, 0) _ hg6 Tryd.underlying23 rfl (hsz g') ?_))
    refine (num_any k _).mono ?_
    rintro e w7 ⟨rfl, rfl⟩
    go_wp2_with fail
    go_ret
    exact ⟨rfl, hbw6⟩
  · go_wp2_with fail
    go_ret
    exact ⟨rfl, hb2⟩
end Go.Proofs.YtammchaihangnaaDoor
