/- Layer 8: table's small makers: effects and abilities. Layer 8: table's makers of prices and of cards. Layer 8: table's rows of abilities: five by five. Layer 8: table's spells and relics' abilities: five by five. Layer 8: table's spells and relics' abilities: the last two rows, and all of them. -/
import Derived.Test.YtplfblccaeligaaDoorTblRef1
import Derived.Test.YtplfblccaeligaaDoorTblIs
namespace Go.Proofs.YtplfblccaeligaaDoor
open Go.RowKit Ex Mx
set_option maxRecDepth 100000
/-- An ability's cells from its parts. -/
theorem ab14 (wh : Int) (f : Nat → Int) (tp : Bool) (tg o n m z : Int) (A : Option Addr) (k c : Nat) : abC ⟨wh, f, tp, tg, .node o n m z []⟩ (evC o n m z A k c) =
    #[.int .i64 wh, .int .i64 (f 0), .int .i64 (f 1), .int .i64 (f 2), .int .i64 (f 3), .int .i64 (f 4), .int .i64 (f 5), .bool tp, .int .i64 tg, .int .i64 o, .int .i64 n, .int .i64 m, .int .i64 z, .slice A k c] := abC14 _ _ _ _ _ _
theorem ev5 (o n m z : Int) (A : Option Addr) (k c : Nat) : evC o n m z A k c = #[.int .i64 o, .int .i64 n, .int .i64 m, .int .i64 z, .slice A k c] := rfl
theorem boxes2 {w : World} {a b : Obj} : Below w.heap.size w ((w.alloc a).alloc b) := ((Below.refl _ _).alloc (Nat.le_refl _) _).alloc (by simp) _
theorem boxes3 {w : World} {a b c : Obj} : Below w.heap.size w (((w.alloc a).alloc b).alloc c) := boxes2.alloc (by simp; omega) _
theorem new_1 (w : World) (a b : Obj) : ((w.alloc a).alloc b).heap[w.heap.size + 1]? = some b := by
  have := heap_alloc_new (w.alloc a) b
  simpa using this
theorem new_2 (w : World) (a b c : Obj) : (((w.alloc a).alloc b).alloc c).heap[w.heap.size + 2]? = some c := by
  have := heap_alloc_new ((w.alloc a).alloc b) c
  simpa using this
theorem new_3 (w : World) (a b c d : Obj) : ((((w.alloc a).alloc b).alloc c).alloc d).heap[w.heap.size + 3]? = some d := by
  have := heap_alloc_new (((w.alloc a).alloc b).alloc c) d
  simpa using this
theorem mk_effect (o n m z : Int) (w : World) : Calls Tryd.prog 64 #[.int .i64 o, .int .i64 n, .int .i64 m, .int .i64 z] w fun e w' => e = .returned (.agg (evC o n m z none 0 0)) ∧ Below w.heap.size w w' := by
  go_enter Tryd.func64, Tryd.ntmps64
  go_wp2_with fail
  refine bodyPost_ret (v := .agg (evC o n m z none 0 0)) ?_ rfl ⟨rfl, (Below.refl _ _).alloc (Nat.le_refl _) _⟩
  exact results_cell_one (ty := 65) (p := 8) (by kernel_rfl) _ _ w.heap.size 65 _ (0, 0) _ rfl (heap_alloc_new _ _) Tryd.underlying65 rfl size5
theorem mk_spell (t o n m z : Int) (A : Option Addr) (k c : Nat) (w : World) : Calls Tryd.prog 75 #[.int .i64 t, .agg (evC o n m z A k c)] w fun e w' => e = .returned (.agg (abC ⟨0, noC, false, t, .node o n m z []⟩ (evC o n m z A k c))) ∧ Below w.heap.size w w' := by
  rw [ab14, ev5]
  go_enter Tryd.func75, Tryd.ntmps75
  go_wp2_with fail
  refine bodyPost_ret (v := .agg #[.int .i64 0, .int .i64 0, .int .i64 0, .int .i64 0, .int .i64 0, .int .i64 0, .int .i64 0, .bool false, .int .i64 t, .int .i64 o, .int .i64 n, .int .i64 m, .int .i64 z, .slice A k c]) ?_ rfl ⟨rfl, boxes2⟩
  exact results_cell_one (ty := 79) (p := 4) (by kernel_rfl) _ _ (w.heap.size + 1) 79 _ (0, 0) _ rfl (new_1 _ _ _) Tryd.underlying79 rfl size14
theorem mk_at (t o n m z : Int) (A : Option Addr) (k c : Nat) (w : World) : Calls Tryd.prog 63 #[.int .i64 t, .agg (evC o n m z A k c)] w fun e w' => e = .returned (.agg (abC ⟨t, noC, false, 0, .node o n m z []⟩ (evC o n m z A k c))) ∧ Below w.heap.size w w' := by
  rw [ab14, ev5]
  go_enter Tryd.func63, Tryd.ntmps63
  go_wp2_with fail
  refine bodyPost_ret (v := .agg #[.int .i64 t, .int .i64 0, .int .i64 0, .int .i64 0, .int .i64 0, .int .i64 0, .int .i64 0, .bool false, .int .i64 0, .int .i64 o, .int .i64 n, .int .i64 m, .int .i64 z, .slice A k c]) ?_ rfl ⟨rfl, boxes2⟩
  exact results_cell_one (ty := 79) (p := 4) (by kernel_rfl) _ _ (w.heap.size + 1) 79 _ (0, 0) _ rfl (new_1 _ _ _) Tryd.underlying79 rfl size14
theorem mk_active (f : Nat → Int) (tp : Bool) (t o n m z : Int) (A : Option Addr) (k c : Nat) (w : World) : Calls Tryd.prog 78 #[.agg (arr .i64 6 f), .bool tp, .int .i64 t, .agg (evC o n m z A k c)] w fun e w' => e = .returned (.agg (abC ⟨1, f, tp, t, .node o n m z []⟩ (evC o n m z A k c))) ∧ Below w.heap.size w w' := by
  rw [ab14, ev5, arr6]
  obtain ⟨f0, e0⟩ : ∃ x, x = f 0 := ⟨_, rfl⟩
  obtain ⟨f1, e1⟩ : ∃ x, x = f 1 := ⟨_, rfl⟩
  obtain ⟨f2, e2⟩ : ∃ x, x = f 2 := ⟨_, rfl⟩
  obtain ⟨f3, e3⟩ : ∃ x, x = f 3 := ⟨_, rfl⟩
  obtain ⟨f4, e4⟩ : ∃ x, x = f 4 := ⟨_, rfl⟩
  obtain ⟨f5, e5⟩ : ∃ x, x = f 5 := ⟨_, rfl⟩
  rw [← e0, ← e1, ← e2, ← e3, ← e4, ← e5]
  clear e0 e1 e2 e3 e4 e5
  go_enter Tryd.func78, Tryd.ntmps78
  go_wp2_with fail
  refine bodyPost_ret (v := .agg #[.int .i64 1, .int .i64 f0, .int .i64 f1, .int .i64 f2, .int .i64 f3, .int .i64 f4, .int .i64 f5, .bool tp, .int .i64 t, .int .i64 o, .int .i64 n, .int .i64 m, .int .i64 z, .slice A k c]) ?_ rfl ⟨rfl, boxes3⟩
  exact results_cell_one (ty := 79) (p := 8) (by kernel_rfl) _ _ (w.heap.size + 2) 79 _ (0, 0) _ rfl (new_2 _ _ _ _) Tryd.underlying79 rfl size14
theorem mk_split (x : Nat) (w : World) (hx : x < 1000) : Calls Tryd.prog 66 #[.int .i64 (x : Int)] w fun e w' => e = .returned (.tuple #[.int .i64 ((x % 5 : Nat) : Int), .int .i64 ((x / 5 : Nat) : Int)]) ∧ w' = w := by
  have r1 : (x : Int).tmod 5 = ((x % 5 : Nat) : Int) := by rw [Int.tmod_eq_emod_of_nonneg (by omega)]; omega
  have r2 : (x : Int).tdiv 5 = ((x / 5 : Nat) : Int) := by rw [Int.tdiv_eq_ediv_of_nonneg (by omega)]; omega
  obtain ⟨p, hp⟩ : ∃ p, p = x % 5 := ⟨_, rfl⟩
  obtain ⟨q, hq⟩ : ∃ q, q = x / 5 := ⟨_, rfl⟩
  rw [← hp] at r1 ⊢
  rw [← hq] at r2 ⊢
  have hq5 : q < 1000 := by omega
  clear hp hq
  go_enter Tryd.func66, Tryd.ntmps66
  go_wp2_with fail
  exact bodyPost_ret (results_tmp2 rfl _ _ _) rfl ⟨rfl, rfl⟩
theorem mk_manaTap (n q : Int) (w : World) : Calls Tryd.prog 62 #[.int .i64 n, .int .i64 q] w fun e w' => e = .returned (.agg (abC (giveA n q) (evC 15 n q 0 none 0 0))) ∧ Below w.heap.size w w' := by
  rw [show abC (giveA n q) (evC 15 n q 0 none 0 0) = #[.int .i64 6, .int .i64 0, .int .i64 0, .int .i64 0, .int .i64 0, .int .i64 0, .int .i64 0, .bool true, .int .i64 0, .int .i64 15, .int .i64 n, .int .i64 q, .int .i64 0, .slice none 0 0] from ab14 6 noC true 0 15 n q 0 none 0 0]
  go_enter Tryd.func62, Tryd.ntmps62
  go_upto_region 1 with fail
  obtain ⟨w0, hw⟩ : ∃ W, W = w.alloc (.cells zeroA 79) := ⟨_, rfl⟩
  have hZ : AbAt w0 w.heap.size zeroA := by rw [hw]; exact AbAt.new _ _
  have hb0 : Below w.heap.size w w0 := by rw [hw]; exact (Below.refl _ _).alloc (Nat.le_refl _) _
  rw [← hw]
  clear hw
  go_wp2_with fail
  refine (mk_effect _ _ _ _ _).mono ?_
  rintro e w1 ⟨rfl, hb1⟩
  rw [ev5]
  have hZ1 := hZ.keep hb1
  go_wp2_with (refine wpList_store_row rfl 79 (.tmp 4) (.tmp 8) rfl w.heap.size _ rfl rfl 79 zeroA hZ1 size14 rfl (by simp [Value.oneCell']) ?_)
  refine bodyPost_ret (v := .agg #[.int .i64 6, .int .i64 0, .int .i64 0, .int .i64 0, .int .i64 0, .int .i64 0, .int .i64 0, .bool true, .int .i64 0, .int .i64 15, .int .i64 n, .int .i64 q, .int .i64 0, .slice none 0 0]) ?_ rfl ⟨rfl, below_setRow (keepB hb1 hb0) _ _ (Nat.le_refl _)⟩
  exact results_cell_one (ty := 79) (p := 4) (by kernel_rfl) _ _ w.heap.size 79 _ (0, 0) _ rfl (setRow_heap _ _ _ _ _ _ hZ1) Tryd.underlying79 rfl size14
/-- An effect without effects within, in any blocks. -/
theorem flatE {Q : Nat → Prop} {W : World} {d : Nat} (o x y z : Int) (h4 : In64 o) (h5 : In64 x) (h6 : In64 y) (h7 : In64 z) : ReadsQ Q W (d + 1) (evC o x y z none 0 0) (.node o x y z []) :=
  ⟨h4, h5, h6, h7, none, 0, rfl, Nat.le_refl _, by unfold maxLen; omega, fun i t hi => by simp at hi⟩
/-- An effect with one within. -/
theorem oneE {Q : Nat → Prop} {W : World} {G : Nat} (op g o n m z : Int) (hg : EvAt W G (evC o n m z none 0 0)) (hq : Q G) (h1 : In64 op) (h2 : In64 g) (h4 : In64 o) (h5 : In64 n) (h6 : In64 m) (h7 : In64 z) :
    ReadsQ Q W 2 (evC op g 0 0 (some ⟨G, 0, none⟩) 1 1) (.node op g 0 0 [.node o n m z []]) :=
  ⟨h1, h2, ⟨by decide, by decide⟩, ⟨by decide, by decide⟩, some ⟨G, 0, none⟩, 1, rfl, Nat.le_refl _, by unfold maxLen; omega, fun i t hi => by
    cases i with
    | zero =>
      simp at hi
      subst hi
      exact ⟨G, 0, _, rfl, hq, fun j v hv => by rw [show 0 * 5 + 0 * 5 + j = j by omega, hg.cell, ← Array.getElem?_toList]; exact hv, ⟨_, hg⟩, flatE o n m z h4 h5 h6 h7⟩
    | succ i => simp at hi⟩
/-- An effect with two within. -/
theorem twoE {Q : Nat → Prop} {W : World} {G : Nat} (op g g2 o n m z o2 n2 m2 z2 : Int) (hg : EvAt W G (evC o n m z none 0 0 ++ evC o2 n2 m2 z2 none 0 0)) (hq : Q G) (h1 : In64 op) (h2 : In64 g) (h3 : In64 g2)
    (h4 : In64 o) (h5 : In64 n) (h6 : In64 m) (h7 : In64 z) (k4 : In64 o2) (k5 : In64 n2) (k6 : In64 m2) (k7 : In64 z2) :
    ReadsQ Q W 2 (evC op g g2 0 (some ⟨G, 0, none⟩) 2 2) (.node op g g2 0 [.node o n m z [], .node o2 n2 m2 z2 []]) :=
  ⟨h1, h2, h3, ⟨by decide, by decide⟩, some ⟨G, 0, none⟩, 2, rfl, Nat.le_refl _, by unfold maxLen; omega, fun i t hi => by
    match i, hi with
    | 0, hi =>
      simp at hi
      subst hi
      refine ⟨G, 0, _, rfl, hq, fun j v hv => ?_, ⟨_, hg⟩, flatE o n m z h4 h5 h6 h7⟩
      rw [show 0 * 5 + 0 * 5 + j = j by omega, hg.cell, ← Array.getElem?_toList, Array.toList_append, List.getElem?_append_left (List.getElem?_eq_some_iff.1 hv).1]; exact hv
    | 1, hi =>
      simp at hi
      subst hi
      refine ⟨G, 0, _, rfl, hq, fun j v hv => ?_, ⟨_, hg⟩, flatE o2 n2 m2 z2 k4 k5 k6 k7⟩
      rw [show 0 * 5 + 1 * 5 + j = 5 + j by omega, hg.cell, ← Array.getElem?_toList, Array.toList_append, List.getElem?_append_right (by simp [evC])]
      simpa [evC] using hv⟩
theorem mk_all (g o n m : Int) (w : World) (h2 : In64 g) (h4 : In64 o) (h5 : In64 n) (h6 : In64 m) : Calls Tryd.prog 76 #[.int .i64 g, .int .i64 o, .int .i64 n, .int .i64 m] w fun e w' => ∃ A c, e = .returned (.agg (evC 20 g 0 0 A 1 c)) ∧
    ReadsQ (fun b => w.heap.size ≤ b ∧ b < w'.heap.size) w' 2 (evC 20 g 0 0 A 1 c) (.node 20 g 0 0 [.node o n m 2 []]) ∧ Below w.heap.size w w' := by
  go_enter Tryd.func76, Tryd.ntmps76
  go_upto_region 1 with fail
  obtain ⟨w0, hw⟩ : ∃ W, W = w.alloc (.cells zeroE 65) := ⟨_, rfl⟩
  have hZ : EvAt w0 w.heap.size zeroE := by rw [hw]; exact EvAt.new _ _
  have hb0 : Below w.heap.size w w0 := by rw [hw]; exact (Below.refl _ _).alloc (Nat.le_refl _) _
  rw [← hw]
  clear hw
  go_wp2_with fail
  refine (mk_effect _ _ _ _ _).mono ?_
  rintro e w1 ⟨rfl, hb1⟩
  have hZ1 := hZ.keep hb1
  have hlt := hZ1.lt
  have hZ2 : EvAt (w1.alloc (.cells (evC o n m 2 none 0 0) 65)) w.heap.size zeroE := hZ1.keep ((Below.refl _ _).alloc (Nat.le_refl _) _)
  have hG : EvAt (w1.alloc (.cells (evC o n m 2 none 0 0) 65)) w1.heap.size (evC o n m 2 none 0 0) := EvAt.new _ _
  rw [ev5] at hZ2 ⊢
  go_wp2_with (refine wpList_store_row rfl 65 (.tmp 8) (.tmp 15) rfl w.heap.size _ rfl rfl 65 zeroE hZ2 size5 rfl (by simp [Value.oneCell']) ?_)
  refine bodyPost_ret (v := .agg (evC 20 g 0 0 (some ⟨w1.heap.size, 0, none⟩) 1 1)) ?_ rfl ⟨_, _, rfl, ?_, below_setRow ((keepB hb1 hb0).alloc (by omega) _) _ _ (Nat.le_refl _)⟩
  · exact results_cell_one (ty := 65) (p := 8) (by kernel_rfl) _ _ w.heap.size 65 _ (0, 0) _ rfl (setRow_heap _ _ _ _ _ _ hZ2) Tryd.underlying65 rfl size5
  · exact oneE 20 g o n m 2 ((setRow_other _ _ _ _ (by omega)).trans hG) ⟨by omega, by simp⟩ ⟨by decide, by decide⟩ h2 h4 h5 h6 ⟨by decide, by decide⟩
theorem mk_seq (o n m z o2 n2 m2 z2 : Int) (w : World) (h4 : In64 o) (h5 : In64 n) (h6 : In64 m) (h7 : In64 z) (k4 : In64 o2) (k5 : In64 n2) (k6 : In64 m2) (k7 : In64 z2) :
    Calls Tryd.prog 77 #[.agg (evC o n m z none 0 0), .agg (evC o2 n2 m2 z2 none 0 0)] w fun e w' => ∃ A c, e = .returned (.agg (evC 21 0 0 0 A 2 c)) ∧
    ReadsQ (fun b => w.heap.size ≤ b ∧ b < w'.heap.size) w' 2 (evC 21 0 0 0 A 2 c) (.node 21 0 0 0 [.node o n m z [], .node o2 n2 m2 z2 []]) ∧ Below w.heap.size w w' := by
  rw [ev5 o, ev5 o2]
  go_enter Tryd.func77, Tryd.ntmps77
  go_upto_region 1 with fail
  go_wp2_with fail
  refine bodyPost_ret (v := .agg (evC 21 0 0 0 (some ⟨w.heap.size + 1 + 1 + 1, 0, none⟩) 2 2)) ?_ rfl ⟨_, _, rfl, ?_, boxes3.alloc (by simp; omega) _⟩
  · exact results_cell_one (ty := 65) (p := 4) (by kernel_rfl) _ _ (w.heap.size + 2) 65 _ (0, 0) _ rfl ((Below.heap_alloc _ _ _ (by simp)).trans (new_2 _ _ _ _)) Tryd.underlying65 rfl size5
  · exact twoE 21 0 0 o n m z o2 n2 m2 z2 (new_3 _ _ _ _ _) ⟨by omega, by simp⟩ ⟨by decide, by decide⟩ ⟨by decide, by decide⟩ ⟨by decide, by decide⟩ h4 h5 h6 h7 k4 k5 k6 k7
end Go.Proofs.YtplfblccaeligaaDoor
namespace Go.Proofs.YtplfblccaeligaaDoor
open Go.RowKit Ex Mx
set_option maxRecDepth 100000
namespace Ex
/-- So much of a colour, and so much of any. -/
def priceF (c : Nat) (n v : Int) : Nat → Int := updI (updI noC 5 v) c (updI noC 5 v c + n)
end Ex
theorem price_lo {c : Nat} (hc : c < 5) (n v : Int) : priceF c n v = updI (updI noC c n) 5 v := by
  funext i
  simp only [priceF, updI, noC]
  by_cases h1 : i = c
  · subst h1; rw [if_pos rfl, if_neg (by omega), if_neg (by omega), if_pos rfl, Int.zero_add]
  · rw [if_neg h1]; split
    · rfl
    · rfl
theorem price_any (n : Int) : priceF 5 n 0 = updI noC 5 n := by
  funext i
  simp only [priceF, updI, noC]
  by_cases h1 : i = 5
  · subst h1; simp
  · rw [if_neg h1, if_neg h1, if_neg h1]
theorem mk_price (c : Nat) (n v : Int) (w : World) (hc : c < 6) (hn : 0 ≤ n) (hn2 : n ≤ 1000) (hv : 0 ≤ v) (hv2 : v ≤ 1000) : Calls Tryd.prog 68 #[.int .i64 (c : Int), .int .i64 n, .int .i64 v] w fun e w' => e = .returned (.agg (arr .i64 6 (priceF c n v))) ∧ Below w.heap.size w w' := by
  go_enter Tryd.func68, Tryd.ntmps68
  go_upto_region 2 with fail
  obtain ⟨W1, hW⟩ : ∃ W, W = (w.alloc (.cells #[.int .i64 0, .int .i64 0, .int .i64 0, .int .i64 0, .int .i64 0, .int .i64 0] 52)).alloc (.cells #[.int .i64 0, .int .i64 0, .int .i64 0, .int .i64 0, .int .i64 0, .int .i64 v] 52) := ⟨_, rfl⟩
  rw [show (#[.int .i64 0, .int .i64 0, .int .i64 0, .int .i64 0, .int .i64 0, .int .i64 0] : Array Value) = arr .i64 6 noC from (arr6 noC).symm, show (#[.int .i64 0, .int .i64 0, .int .i64 0, .int .i64 0, .int .i64 0, .int .i64 v] : Array Value) = arr .i64 6 (updI noC 5 v) from (arr6 (updI noC 5 v)).symm] at hW
  have hZ : ArrAt .i64 6 52 W1 w.heap.size noC := by rw [hW]; exact (ArrAt.new w .i64 6 52 noC).alloc _
  have hP : ArrAt .i64 6 52 W1 (w.heap.size + 1) (updI noC 5 v) := by
    have := ArrAt.new (w.alloc (.cells (arr .i64 6 noC) 52)) .i64 6 52 (updI noC 5 v)
    rw [hW]; simpa using this
  have hb1 : Below w.heap.size w W1 := by rw [hW]; exact boxes2
  rw [show (#[.int .i64 0, .int .i64 0, .int .i64 0, .int .i64 0, .int .i64 0, .int .i64 0] : Array Value) = arr .i64 6 noC from (arr6 noC).symm, show (#[.int .i64 0, .int .i64 0, .int .i64 0, .int .i64 0, .int .i64 0, .int .i64 v] : Array Value) = arr .i64 6 (updI noC 5 v) from (arr6 (updI noC 5 v)).symm, ← hW]
  clear hW
  obtain ⟨x, hx⟩ : ∃ x, x = updI noC 5 v c := ⟨_, rfl⟩
  have k0 : W1.cell? ⟨w.heap.size + 1, c, none⟩ = some (.int .i64 x) := by rw [hP.cell hc, hx]
  have f0 := hP.frozen c
  have hxr : 0 ≤ x ∧ x ≤ 1000 := by rw [hx]; simp only [updI, noC]; split <;> omega
  have v0 : IntKind.i64.wrap (x + n) = x + n := i64_in (by omega) (by omega)
  have c0 : (0 : Int) ≤ (c : Int) := by omega
  have c6 : (c : Int) < 6 := by omega
  obtain ⟨hx0, hx1⟩ := hxr
  have HX := Lib.hid hx
  clear hv hv2 hx
  go_upto_region 3 with fail
  obtain ⟨W2, hW⟩ : ∃ W, W = W1.setCell ⟨w.heap.size + 1, c, none⟩ (.int .i64 (x + n)) := ⟨_, rfl⟩
  have hP2 : ArrAt .i64 6 52 W2 (w.heap.size + 1) (priceF c n v) := by
    rw [hW]; have := hP.set_ c (x + n); rw [HX.out] at this ⊢; exact this
  have hZ2 : ArrAt .i64 6 52 W2 w.heap.size noC := by rw [hW]; exact hZ.far (by simp) _
  have hb2 : Below w.heap.size w W2 := by rw [hW]; exact hb1.setCell (by simp) _
  rw [← hW]
  clear hW k0 f0 v0 hP hZ hb1
  have hs6 : (Tryd.prog.info? 52).map (·.size) = some (arr .i64 6 (priceF c n v)).size := by rw [arr_size]; kernel_rfl
  go_wp2_with (first
    | (refine wpList_load_row rfl 52 (.tmp 7) rfl (w.heap.size + 1) rfl 52 _ (0, 0) _ hP2 Tryd.underlying52 rfl hs6 ?_)
    | (refine wpList_store_row rfl 52 (.tmp 6) (.tmp 16) rfl w.heap.size _ rfl rfl 52 _ hZ2 hs6 (by rw [arr_size, arr_size]) (arr_one _ _ _) ?_))
  refine bodyPost_ret (v := .agg (arr .i64 6 (priceF c n v))) ?_ rfl ⟨rfl, below_setRow hb2 _ _ (Nat.le_refl _)⟩
  exact results_cell_one (ty := 52) (p := 6) (by kernel_rfl) _ _ w.heap.size 52 _ (0, 0) _ rfl (setRow_heap _ _ _ _ _ _ hZ2) Tryd.underlying52 rfl hs6
theorem mk_source (q : Int) (A : Option Addr) (k c : Nat) (w : World) : Calls Tryd.prog 61 #[.int .i64 q, .slice A k c] w fun e w' => e = .returned (.agg (cardC ⟨0, q, false, noC, 0, 0, 0, []⟩ A k c)) ∧ Below w.heap.size w w' := by
  rw [show cardC ⟨0, q, false, noC, 0, 0, 0, []⟩ A k c = #[.int .i64 0, .int .i64 q, .bool false, .int .i64 0, .int .i64 0, .int .i64 0, .int .i64 0, .int .i64 0, .int .i64 0, .int .i64 0, .int .i64 0, .int .i64 0, .slice A k c] by unfold cardC; rw [arr6]; rfl]
  go_enter Tryd.func61, Tryd.ntmps61
  go_wp2_with fail
  refine bodyPost_ret (v := .agg #[.int .i64 0, .int .i64 q, .bool false, .int .i64 0, .int .i64 0, .int .i64 0, .int .i64 0, .int .i64 0, .int .i64 0, .int .i64 0, .int .i64 0, .int .i64 0, .slice A k c]) ?_ rfl ⟨rfl, (Below.refl _ _).alloc (Nat.le_refl _) _⟩
  exact results_cell_one (ty := 55) (p := 4) (by kernel_rfl) _ _ w.heap.size 55 _ (0, 0) _ rfl (heap_alloc_new _ _) Tryd.underlying55 rfl size13
/-- One ability in a block at hand, behind three boxes. -/
theorem oneA {Q : Nat → Prop} {W : World} {G : Nat} {ys : Array Value} {a : AbT} (h : AbAt W G ys) (hr : ReadsAQ Q W 2 ys a) (hq : Q G) : RdAQ Q W 2 (some ⟨G, 0, none⟩) [a] := one_ab h hr hq
theorem mk_magic (q : Int) (fs : Bool) (f : Nat → Int) (a : AbT) (ys : Array Value) (B : Nat) (w : World) (hB : B ≤ w.heap.size) (hq : In64 q) (hf : Wide f) (hr : ReadsAQ (fun b => B ≤ b ∧ b < w.heap.size) w 2 ys a) :
    Calls Tryd.prog 67 #[.int .i64 q, .bool fs, .agg (arr .i64 6 f), .agg ys] w fun e w' => ∃ cs, e = .returned (.agg cs) ∧ ReadsCQ (fun b => B ≤ b ∧ b < w'.heap.size) w' 2 cs ⟨2, q, fs, f, 0, 0, 0, [a]⟩ ∧ Below w.heap.size w w' := by
  have HR := Lib.hid hr
  obtain ⟨h1, h2, h3, xs, hye, hrx⟩ := hr
  obtain ⟨A, c, hxs⟩ := hrx.shape
  have HYe := Lib.hid (show ys = #[.int .i64 a.when_, .int .i64 (a.cost 0), .int .i64 (a.cost 1), .int .i64 (a.cost 2), .int .i64 (a.cost 3), .int .i64 (a.cost 4), .int .i64 (a.cost 5), .bool a.tap, .int .i64 a.target, .int .i64 a.do_.op, .int .i64 a.do_.n, .int .i64 a.do_.m, .int .i64 a.do_.who, .slice A a.do_.subs.length c] by rw [hye, hxs]; exact abC14 _ _ _ _ _ _)
  rw [HYe.out, arr6]
  clear h1 h2 h3 hye hrx hxs
  go_enter Tryd.func67, Tryd.ntmps67
  go_wp2_with fail
  rw [← arr6, ← HYe.out]
  refine bodyPost_ret (v := .agg (cardC ⟨2, q, fs, f, 0, 0, 0, [a]⟩ (some ⟨w.heap.size + 1 + 1 + 1, 0, none⟩) 1 1)) ?_ rfl ⟨_, rfl, ?_, boxes3.alloc (by simp; omega) _⟩
  · refine results_cell_one (ty := 55) (p := 8) (by kernel_rfl) _ _ (w.heap.size + 2) 55 _ (0, 0) _ rfl ?_ Tryd.underlying55 rfl (by rw [show (cardC ⟨2, q, fs, f, 0, 0, 0, [a]⟩ (some ⟨w.heap.size + 1 + 1 + 1, 0, none⟩) 1 1).size = 13 by simp [cardC, arr_size]]; exact size13)
    rw [show cardC ⟨2, q, fs, f, 0, 0, 0, [a]⟩ (some ⟨w.heap.size + 1 + 1 + 1, 0, none⟩) 1 1 = #[.int .i64 2, .int .i64 q, .bool fs, .int .i64 (f 0), .int .i64 (f 1), .int .i64 (f 2), .int .i64 (f 3), .int .i64 (f 4), .int .i64 (f 5), .int .i64 0, .int .i64 0, .int .i64 0, .slice (some ⟨w.heap.size + 1 + 1 + 1, 0, none⟩) 1 1] by unfold cardC; rw [arr6]; rfl]
    exact (Below.heap_alloc _ _ _ (by simp)).trans (new_2 _ _ _ _)
  · refine ⟨in_2, hq, hf, in_0, in_0, in_0, _, 1, rfl, Nat.le_refl _, by unfold maxLen; simp, one_ab (new_3 _ _ _ _ _) ?_ ⟨by omega, by simp⟩⟩
    exact HR.out.keep (fun b hb => (boxes3.alloc (by simp; omega) _ : Below w.heap.size w _).block b hb.2) (fun b hb => ⟨hb.1, by simp; omega⟩)
theorem mk_relic (q : Int) (f : Nat → Int) (a : AbT) (ys : Array Value) (B : Nat) (w : World) (hB : B ≤ w.heap.size) (hq : In64 q) (hf : Wide f) (hr : ReadsAQ (fun b => B ≤ b ∧ b < w.heap.size) w 2 ys a) :
    Calls Tryd.prog 70 #[.int .i64 q, .agg (arr .i64 6 f), .agg ys] w fun e w' => ∃ cs, e = .returned (.agg cs) ∧ ReadsCQ (fun b => B ≤ b ∧ b < w'.heap.size) w' 2 cs ⟨3, q, false, f, 0, 0, 0, [a]⟩ ∧ Below w.heap.size w w' := by
  have HR := Lib.hid hr
  obtain ⟨h1, h2, h3, xs, hye, hrx⟩ := hr
  obtain ⟨A, c, hxs⟩ := hrx.shape
  have HYe := Lib.hid (show ys = #[.int .i64 a.when_, .int .i64 (a.cost 0), .int .i64 (a.cost 1), .int .i64 (a.cost 2), .int .i64 (a.cost 3), .int .i64 (a.cost 4), .int .i64 (a.cost 5), .bool a.tap, .int .i64 a.target, .int .i64 a.do_.op, .int .i64 a.do_.n, .int .i64 a.do_.m, .int .i64 a.do_.who, .slice A a.do_.subs.length c] by rw [hye, hxs]; exact abC14 _ _ _ _ _ _)
  rw [HYe.out, arr6]
  clear h1 h2 h3 hye hrx hxs
  go_enter Tryd.func70, Tryd.ntmps70
  go_wp2_with fail
  rw [← arr6, ← HYe.out]
  refine bodyPost_ret (v := .agg (cardC ⟨3, q, false, f, 0, 0, 0, [a]⟩ (some ⟨w.heap.size + 1 + 1 + 1, 0, none⟩) 1 1)) ?_ rfl ⟨_, rfl, ?_, boxes3.alloc (by simp; omega) _⟩
  · refine results_cell_one (ty := 55) (p := 6) (by kernel_rfl) _ _ (w.heap.size + 2) 55 _ (0, 0) _ rfl ?_ Tryd.underlying55 rfl (by rw [show (cardC ⟨3, q, false, f, 0, 0, 0, [a]⟩ (some ⟨w.heap.size + 1 + 1 + 1, 0, none⟩) 1 1).size = 13 by simp [cardC, arr_size]]; exact size13)
    rw [show cardC ⟨3, q, false, f, 0, 0, 0, [a]⟩ (some ⟨w.heap.size + 1 + 1 + 1, 0, none⟩) 1 1 = #[.int .i64 3, .int .i64 q, .bool false, .int .i64 (f 0), .int .i64 (f 1), .int .i64 (f 2), .int .i64 (f 3), .int .i64 (f 4), .int .i64 (f 5), .int .i64 0, .int .i64 0, .int .i64 0, .slice (some ⟨w.heap.size + 1 + 1 + 1, 0, none⟩) 1 1] by unfold cardC; rw [arr6]; rfl]
    exact (Below.heap_alloc _ _ _ (by simp)).trans (new_2 _ _ _ _)
  · refine ⟨in_3, hq, hf, in_0, in_0, in_0, _, 1, rfl, Nat.le_refl _, by unfold maxLen; simp, one_ab (new_3 _ _ _ _ _) ?_ ⟨by omega, by simp⟩⟩
    exact HR.out.keep (fun b hb => (boxes3.alloc (by simp; omega) _ : Below w.heap.size w _).block b hb.2) (fun b hb => ⟨hb.1, by simp; omega⟩)
theorem mk_token (k : Nat) (w : World) (hk : k < 8) : Calls Tryd.prog 73 #[.int .i64 (k : Int)] w fun e w' => e = .returned (.agg (cardC ⟨1, 5, false, noC, ((k / 2 + 1 : Nat) : Int), ((k / 2 + 1 : Nat) : Int), ((k % 2 : Nat) : Int), []⟩ none 0 0)) ∧ Below w.heap.size w w' := by
  obtain ⟨p, hp⟩ : ∃ p, p = k / 2 := ⟨_, rfl⟩
  obtain ⟨q, hq⟩ : ∃ q, q = k % 2 := ⟨_, rfl⟩
  have r1 : (k : Int).tmod 2 = (q : Int) := by rw [Int.tmod_eq_emod_of_nonneg (by omega)]; omega
  have r2 : (k : Int).tdiv 2 = (p : Int) := by rw [Int.tdiv_eq_ediv_of_nonneg (by omega)]; omega
  rw [← hp, ← hq]
  rw [show ((p + 1 : Nat) : Int) = (p : Int) + 1 by omega, show cardC ⟨1, 5, false, noC, ((p : Int) + 1), ((p : Int) + 1), (q : Int), []⟩ none 0 0 = #[.int .i64 1, .int .i64 5, .bool false, .int .i64 0, .int .i64 0, .int .i64 0, .int .i64 0, .int .i64 0, .int .i64 0, .int .i64 ((p : Int) + 1), .int .i64 ((p : Int) + 1), .int .i64 (q : Int), .slice none 0 0] by unfold cardC; rw [arr6]; rfl]
  have hp8 : p < 8 := by omega
  have hq2 : q < 2 := by omega
  clear hp hq
  go_enter Tryd.func73, Tryd.ntmps73
  go_wp2_with fail
  refine bodyPost_ret (v := .agg #[.int .i64 1, .int .i64 5, .bool false, .int .i64 0, .int .i64 0, .int .i64 0, .int .i64 0, .int .i64 0, .int .i64 0, .int .i64 ((p : Int) + 1), .int .i64 ((p : Int) + 1), .int .i64 (q : Int), .slice none 0 0]) ?_ rfl ⟨rfl, (Below.refl _ _).alloc (Nat.le_refl _) _⟩
  exact results_cell_one (ty := 55) (p := 2) (by kernel_rfl) _ _ w.heap.size 55 _ (0, 0) _ rfl (heap_alloc_new _ _) Tryd.underlying55 rfl size13
end Go.Proofs.YtplfblccaeligaaDoor
namespace Go.Proofs.YtplfblccaeligaaDoor
open Go.RowKit Ex Mx
set_option maxRecDepth 100000
noncomputable abbrev zero70 : Array Value := Tryd.zeroCells113
theorem size70 : (Tryd.prog.info? 113).map (·.size) = some 70 := by kernel_rfl
/-- What has been made so far: effects that read in blocks of the call's own, and the result's box. -/
structure EAcc (w : World) (z : Array Value) (t : TypeId) (W : World) (l : List (Array Value × ET)) : Prop where
  b : Below w.heap.size w W
  z : W.heap[w.heap.size]? = some (.cells z t (0, 0))
  rd : ∀ p ∈ l, ReadsQ (fun b => w.heap.size < b ∧ b < W.heap.size) W 2 p.1 p.2
section
variable {w W W' : World} {z : Array Value} {t : TypeId} {l : List (Array Value × ET)}
theorem EAcc.lt (h : EAcc w z t W l) : w.heap.size < W.heap.size := (Array.getElem?_eq_some_iff.1 h.z).1
theorem EAcc.step (h : EAcc w z t W l) (hb : Below W.heap.size W W') : EAcc w z t W' l :=
  ⟨keepB hb h.b, (hb.block _ h.lt).trans h.z, fun p hp => (h.rd p hp).keep (fun b hq => hb.block b hq.2) (fun _ hq => ⟨hq.1, Nat.lt_of_lt_of_le hq.2 hb.size⟩)⟩
theorem EAcc.snoc (h : EAcc w z t W l) (hb : Below W.heap.size W W') {xs : Array Value} {e : ET} (hr : ReadsQ (fun b => W.heap.size ≤ b ∧ b < W'.heap.size) W' 2 xs e) : EAcc w z t W' ((xs, e) :: l) := by
  have h2 := h.step hb
  refine ⟨h2.b, h2.z, fun p hp => ?_⟩
  rcases List.mem_cons.1 hp with rfl | hp
  · exact hr.keep (fun _ _ => rfl) (fun _ hq => ⟨Nat.lt_of_lt_of_le h.lt hq.1, hq.2⟩)
  · exact h2.rd p hp
theorem EAcc.get (h : EAcc w z t W l) (i : Nat) {xs : Array Value} {e : ET} (hi : l[i]? = some (xs, e)) : ReadsQ (fun b => w.heap.size < b ∧ b < W.heap.size) W 2 xs e := h.rd _ (List.mem_of_getElem? hi)
end
/-- An ability of which the effect reads. -/
theorem ab_reads {Q : Nat → Prop} {W : World} {xs : Array Value} {a : AbT} (wh : Int) (f : Nat → Int) (tp : Bool) (tg : Int) (e e2 : ET) (h1 : In64 wh) (h2 : Wide f) (h3 : In64 tg) (hr : ReadsQ Q W 2 xs e) (ha : a = ⟨wh, f, tp, tg, e⟩) : ReadsAQ Q W 2 (abC ⟨wh, f, tp, tg, e2⟩ xs) a := by
  subst ha
  exact ⟨h1, h2, h3, xs, rfl, hr⟩
theorem list14 {a : Array Value} (h : a.size = 14) : ∃ y0 y1 y2 y3 y4 y5 y6 y7 y8 y9 y10 y11 y12 y13, a = #[y0, y1, y2, y3, y4, y5, y6, y7, y8, y9, y10, y11, y12, y13] := by
  obtain ⟨l⟩ := a
  match l, h with
  | [y0, y1, y2, y3, y4, y5, y6, y7, y8, y9, y10, y11, y12, y13], _ => exact ⟨y0, y1, y2, y3, y4, y5, y6, y7, y8, y9, y10, y11, y12, y13, rfl⟩
theorem build_five {a0 a1 a2 a3 a4 : Array Value} (h0 : a0.size = 14) (h1 : a1.size = 14) (h2 : a2.size = 14) (h3 : a3.size = 14) (h4 : a4.size = 14) (W : World) :
    (Instr.build 113 #[(0, .agg a0), (1, .agg a1), (2, .agg a2), (3, .agg a3), (4, .agg a4)]).run Tryd.prog W = .ok (.agg (a0 ++ a1 ++ a2 ++ a3 ++ a4)) W := by
  obtain ⟨y0_0, y0_1, y0_2, y0_3, y0_4, y0_5, y0_6, y0_7, y0_8, y0_9, y0_10, y0_11, y0_12, y0_13, rfl⟩ := list14 h0
  obtain ⟨y1_0, y1_1, y1_2, y1_3, y1_4, y1_5, y1_6, y1_7, y1_8, y1_9, y1_10, y1_11, y1_12, y1_13, rfl⟩ := list14 h1
  obtain ⟨y2_0, y2_1, y2_2, y2_3, y2_4, y2_5, y2_6, y2_7, y2_8, y2_9, y2_10, y2_11, y2_12, y2_13, rfl⟩ := list14 h2
  obtain ⟨y3_0, y3_1, y3_2, y3_3, y3_4, y3_5, y3_6, y3_7, y3_8, y3_9, y3_10, y3_11, y3_12, y3_13, rfl⟩ := list14 h3
  obtain ⟨y4_0, y4_1, y4_2, y4_3, y4_4, y4_5, y4_6, y4_7, y4_8, y4_9, y4_10, y4_11, y4_12, y4_13, rfl⟩ := list14 h4
  kernel_rfl
theorem wpList_build_five {ops : Array Oper} {rest : List Oper} {o : Oper} {a : Act} {w : World} {Q : Exit → Act → World → Prop} (hg : o.guard = none) {y0 y1 y2 y3 y4 : Operand}
    (ho : o.op = .build 113 #[(0, y0), (1, y1), (2, y2), (3, y3), (4, y4)]) {a0 a1 a2 a3 a4 : Array Value} (e0 : a.eval y0 = .agg a0) (e1 : a.eval y1 = .agg a1) (e2 : a.eval y2 = .agg a2) (e3 : a.eval y3 = .agg a3) (e4 : a.eval y4 = .agg a4)
    (h0 : a0.size = 14) (h1 : a1.size = 14) (h2 : a2.size = 14) (h3 : a3.size = 14) (h4 : a4.size = 14)
    (hK : wpList Tryd.prog ops Q rest (a.put o.dst (.agg (a0 ++ a1 ++ a2 ++ a3 ++ a4))) w) : wpList Tryd.prog ops Q (o :: rest) a w := by
  refine wpList_plain hg fun K' hK' => ?_
  unfold Oper.wp
  simp only [execOp, ho, List.map_toArray, List.map_cons, List.map_nil, e0, e1, e2, e3, e4, Sem.run_bind, Sem.run_pure]
  rw [build_five h0 h1 h2 h3 h4 w]
  exact hK' _ _ hK
theorem index_at {b0 b1 b2 b3 b4 : Array Value} (h0 : b0.size = 14) (h1 : b1.size = 14) (h2 : b2.size = 14) (h3 : b3.size = 14) (h4 : b4.size = 14) (W : World) :
    (Instr.index 113 (.agg (b0 ++ b1 ++ b2 ++ b3 ++ b4)) (.int .i64 0)).run Tryd.prog W = .ok (.agg b0) W ∧ (Instr.index 113 (.agg (b0 ++ b1 ++ b2 ++ b3 ++ b4)) (.int .i64 1)).run Tryd.prog W = .ok (.agg b1) W ∧
    (Instr.index 113 (.agg (b0 ++ b1 ++ b2 ++ b3 ++ b4)) (.int .i64 2)).run Tryd.prog W = .ok (.agg b2) W ∧ (Instr.index 113 (.agg (b0 ++ b1 ++ b2 ++ b3 ++ b4)) (.int .i64 3)).run Tryd.prog W = .ok (.agg b3) W ∧
    (Instr.index 113 (.agg (b0 ++ b1 ++ b2 ++ b3 ++ b4)) (.int .i64 4)).run Tryd.prog W = .ok (.agg b4) W := by
  obtain ⟨y0_0, y0_1, y0_2, y0_3, y0_4, y0_5, y0_6, y0_7, y0_8, y0_9, y0_10, y0_11, y0_12, y0_13, rfl⟩ := list14 h0
  obtain ⟨y1_0, y1_1, y1_2, y1_3, y1_4, y1_5, y1_6, y1_7, y1_8, y1_9, y1_10, y1_11, y1_12, y1_13, rfl⟩ := list14 h1
  obtain ⟨y2_0, y2_1, y2_2, y2_3, y2_4, y2_5, y2_6, y2_7, y2_8, y2_9, y2_10, y2_11, y2_12, y2_13, rfl⟩ := list14 h2
  obtain ⟨y3_0, y3_1, y3_2, y3_3, y3_4, y3_5, y3_6, y3_7, y3_8, y3_9, y3_10, y3_11, y3_12, y3_13, rfl⟩ := list14 h3
  obtain ⟨y4_0, y4_1, y4_2, y4_3, y4_4, y4_5, y4_6, y4_7, y4_8, y4_9, y4_10, y4_11, y4_12, y4_13, rfl⟩ := list14 h4
  exact ⟨by kernel_rfl, by kernel_rfl, by kernel_rfl, by kernel_rfl, by kernel_rfl⟩
/-- The c-th of five. -/
theorem index_five {a : Nat → Array Value} (h : ∀ c < 5, (a c).size = 14) (c : Nat) (hc : c < 5) (W : World) : (Instr.index 113 (.agg (a 0 ++ a 1 ++ a 2 ++ a 3 ++ a 4)) (.int .i64 (c : Int))).run Tryd.prog W = .ok (.agg (a c)) W := by
  have hh := index_at (h 0 (by omega)) (h 1 (by omega)) (h 2 (by omega)) (h 3 (by omega)) (h 4 (by omega)) W
  match c, hc with
  | 0, _ => exact hh.1
  | 1, _ => exact hh.2.1
  | 2, _ => exact hh.2.2.1
  | 3, _ => exact hh.2.2.2.1
  | 4, _ => exact hh.2.2.2.2
theorem wpList_index_five {ops : Array Oper} {rest : List Oper} {o : Oper} {a : Act} {w : World} {Q : Exit → Act → World → Prop} (hg : o.guard = none) {x y : Operand} (ho : o.op = .index 113 x y) {u : Nat → Array Value} {c : Nat}
    (ex : a.eval x = .agg (u 0 ++ u 1 ++ u 2 ++ u 3 ++ u 4)) (ey : a.eval y = .int .i64 (c : Int)) (hu : ∀ c < 5, (u c).size = 14) (hc : c < 5)
    (hK : wpList Tryd.prog ops Q rest (a.put o.dst (.agg (u c))) w) : wpList Tryd.prog ops Q (o :: rest) a w := by
  refine wpList_plain hg fun K' hK' => ?_
  unfold Oper.wp
  simp only [execOp, ho, ex, ey, index_five hu c hc, Sem.run_bind, Sem.run_pure, Result.andThen_ok]
  exact hK' _ _ hK
/-- What a row of abilities answers: five, each in blocks of the call's own. -/
def FiveQ (T : Nat → AbT) (w : World) (e : Ending) (w' : World) : Prop := ∃ u : Nat → Array Value, e = .returned (.agg (u 0 ++ u 1 ++ u 2 ++ u 3 ++ u 4)) ∧ (∀ c < 5, ReadsAQ (fun b => w.heap.size ≤ b ∧ b < w'.heap.size) w' 2 (u c) (T c)) ∧ Below w.heap.size w w'
def pick5 {α : Type} (a0 a1 a2 a3 a4 : α) : Nat → α
  | 0 => a0
  | 1 => a1
  | 2 => a2
  | 3 => a3
  | _ => a4
theorem FiveQ.of {T : Nat → AbT} {w W : World} {a0 a1 a2 a3 a4 cs : Array Value} (hb : Below w.heap.size w W)
    (h0 : ReadsAQ (fun b => w.heap.size < b ∧ b < W.heap.size) W 2 a0 (T 0)) (h1 : ReadsAQ (fun b => w.heap.size < b ∧ b < W.heap.size) W 2 a1 (T 1)) (h2 : ReadsAQ (fun b => w.heap.size < b ∧ b < W.heap.size) W 2 a2 (T 2))
    (h3 : ReadsAQ (fun b => w.heap.size < b ∧ b < W.heap.size) W 2 a3 (T 3)) (h4 : ReadsAQ (fun b => w.heap.size < b ∧ b < W.heap.size) W 2 a4 (T 4)) : FiveQ T w (.returned (.agg (a0 ++ a1 ++ a2 ++ a3 ++ a4))) (W.setRow w.heap.size cs) := by
  have kp : ∀ {a : Array Value} {t : AbT}, ReadsAQ (fun b => w.heap.size < b ∧ b < W.heap.size) W 2 a t → ReadsAQ (fun b => w.heap.size ≤ b ∧ b < (W.setRow w.heap.size cs).heap.size) (W.setRow w.heap.size cs) 2 a t := fun h =>
    h.keep (fun b hq => setRow_other _ _ _ _ (by omega)) (fun b hq => ⟨by omega, by rw [setRow_size]; exact hq.2⟩)
  refine ⟨pick5 a0 a1 a2 a3 a4, rfl, fun c hc => ?_, below_setRow hb _ _ (Nat.le_refl _)⟩
  match c, hc with
  | 0, _ => exact kp h0
  | 1, _ => exact kp h1
  | 2, _ => exact kp h2
  | 3, _ => exact kp h3
  | 4, _ => exact kp h4
end Go.Proofs.YtplfblccaeligaaDoor
namespace Go.Proofs.YtplfblccaeligaaDoor
open Go.RowKit Ex Mx
set_option maxRecDepth 100000
theorem abE_size (a : AbT) (o n m z : Int) (A : Option Addr) (k c : Nat) : (abC a (evC o n m z A k c)).size = 14 := by simp [abC, arr_size, evC]
theorem abE_one (a : AbT) (o n m z : Int) (A : Option Addr) (k c : Nat) : (abC a (evC o n m z A k c)).all (·.oneCell') = true := by
  have h1 := ev_one o n m z A k c
  have h2 := arr_one .i64 6 a.cost
  simp only [abC, Array.all_append, h1, h2]; simp [Value.oneCell']
theorem wpList_store_five {ops : Array Oper} {rest : List Oper} {o : Oper} {a : Act} {w : World} {Q : Exit → Act → World → Prop} (hgd : o.guard = none) {x y : Operand} (ho : o.op = .store 113 x y)
    {g : Nat} {a0 a1 a2 a3 a4 : Array Value} (hx : a.eval x = .pointer (some ⟨g, 0, none⟩)) (hy : a.eval y = .agg (a0 ++ a1 ++ a2 ++ a3 ++ a4)) (hz : w.heap[g]? = some (.cells zero70 113 (0, 0)))
    (h0 : a0.size = 14) (h1 : a1.size = 14) (h2 : a2.size = 14) (h3 : a3.size = 14) (h4 : a4.size = 14)
    (o0 : a0.all (·.oneCell') = true) (o1 : a1.all (·.oneCell') = true) (o2 : a2.all (·.oneCell') = true) (o3 : a3.all (·.oneCell') = true) (o4 : a4.all (·.oneCell') = true)
    (hK : wpList Tryd.prog ops Q rest (a.put o.dst undef) (w.setRow g (a0 ++ a1 ++ a2 ++ a3 ++ a4))) : wpList Tryd.prog ops Q (o :: rest) a w := by
  have hs : (a0 ++ a1 ++ a2 ++ a3 ++ a4).size = 70 := by simp only [Array.size_append, h0, h1, h2, h3, h4]
  refine wpList_store_row hgd 113 x y ho g _ hx hy 113 zero70 hz (by rw [hs]; exact size70) (by rw [hs]; rfl) ?_ hK
  simp only [Array.all_append, o0, o1, o2, o3, o4, Bool.and_self]
theorem five_end {fn : Func} {T : Nat → AbT} {w W : World} {ac : Act} {p : Tmp} {a0 a1 a2 a3 a4 : Array Value} (hf : fn.results = #[.cell p 113]) (hp : ac.tmps.getD p undef = .pointer (some ⟨w.heap.size, 0, none⟩)) (hd : ac.defers = []) {l : List (Array Value × ET)} (h : EAcc w zero70 113 W l)
    (h0 : ReadsAQ (fun b => w.heap.size < b ∧ b < W.heap.size) W 2 a0 (T 0)) (h1 : ReadsAQ (fun b => w.heap.size < b ∧ b < W.heap.size) W 2 a1 (T 1)) (h2 : ReadsAQ (fun b => w.heap.size < b ∧ b < W.heap.size) W 2 a2 (T 2))
    (h3 : ReadsAQ (fun b => w.heap.size < b ∧ b < W.heap.size) W 2 a3 (T 3)) (h4 : ReadsAQ (fun b => w.heap.size < b ∧ b < W.heap.size) W 2 a4 (T 4)) :
    bodyPost Tryd.prog fn (FiveQ T w) .ret ac (W.setRow w.heap.size (a0 ++ a1 ++ a2 ++ a3 ++ a4)) := by
  have hs : (a0 ++ a1 ++ a2 ++ a3 ++ a4).size = 70 := by simp only [Array.size_append, h0.size, h1.size, h2.size, h3.size, h4.size]
  refine bodyPost_ret (v := .agg (a0 ++ a1 ++ a2 ++ a3 ++ a4)) ?_ hd (FiveQ.of h.b h0 h1 h2 h3 h4)
  exact results_cell_one hf _ _ w.heap.size 113 _ (0, 0) _ hp (setRow_heap _ _ _ _ _ _ h.z) Tryd.underlying113 rfl (by rw [hs]; exact size70)
/-- A flat one. -/
theorem flatSp {Q : Nat → Prop} {W : World} {a : AbT} (wh : Int) (f : Nat → Int) (tp : Bool) (tg o n m z : Int) (h1 : In64 wh) (h2 : Wide f) (h3 : In64 tg) (h4 : In64 o) (h5 : In64 n) (h6 : In64 m) (h7 : In64 z) (ha : a = ⟨wh, f, tp, tg, .node o n m z []⟩) :
    ReadsAQ Q W 2 (abC ⟨wh, f, tp, tg, .node o n m z []⟩ (evC o n m z none 0 0)) a := ab_reads wh f tp tg _ _ h1 h2 h3 (flatE o n m z h4 h5 h6 h7) ha
theorem price_only {c : Nat} (hc : c < 5) (n : Int) : priceF c n 0 = updI noC c n := by
  rw [price_lo hc]
  funext i
  simp only [updI, noC]
  by_cases h1 : i = 5
  · subst h1; rw [if_pos rfl, if_neg (by omega)]
  · rw [if_neg h1]
namespace Ex
def spellT (k c : Nat) : AbT := ⟨0, noC, false, (magicL.getD (5 * k + c) []).getD 0 0, effL ((magicL.getD (5 * k + c) []).drop 1)⟩
def relicT (k c : Nat) : AbT := abL (relicL.getD (5 * k + c) [])
end Ex
theorem spells_0 (w : World) : Calls Tryd.prog 69 #[.int .i64 0] w (FiveQ (spellT 0) w) := by
  go_enter Tryd.func69, Tryd.ntmps69
  go_upto_region 1 with fail
  obtain ⟨w0, hw⟩ : ∃ W, W = w.alloc (.cells zero70 113) := ⟨_, rfl⟩
  have hacc : EAcc w zero70 113 w0 [] := by rw [hw]; exact ⟨(Below.refl _ _).alloc (Nat.le_refl _) _, heap_alloc_new _ _, by simp⟩
  rw [← hw]
  clear hw
  go_wp2_with (first
    | (go_at_call 64; refine (mk_effect _ _ _ _ _).mono ?_; rintro e w' ⟨rfl, hb'⟩; replace hacc := hacc.step hb'; clear hb')
    | (go_at_call 75; refine (mk_spell _ _ _ _ _ _ _ _ _).mono ?_; rintro e w' ⟨rfl, hb'⟩; replace hacc := hacc.step hb'; clear hb')
    | (go_at_call 63; refine (mk_at _ _ _ _ _ _ _ _ _).mono ?_; rintro e w' ⟨rfl, hb'⟩; replace hacc := hacc.step hb'; clear hb')
    | (go_at_call 78; refine (mk_active _ _ _ _ _ _ _ _ _ _ _).mono ?_; rintro e w' ⟨rfl, hb'⟩; replace hacc := hacc.step hb'; clear hb')
    | (go_at_call 68; refine (mk_price 0 _ _ _ (by decide) (by decide) (by decide) (by decide) (by decide)).mono ?_; rintro e w' ⟨rfl, hb'⟩; replace hacc := hacc.step hb'; clear hb')
    | (go_at_call 76; refine (mk_all _ _ _ _ _ ⟨by decide, by decide⟩ ⟨by decide, by decide⟩ ⟨by decide, by decide⟩ ⟨by decide, by decide⟩).mono ?_; rintro e w' ⟨A', c', rfl, hr', hb'⟩; replace hacc := hacc.snoc hb' hr'; clear hb' hr')
    | (go_at_call 77; refine (mk_seq _ _ _ _ _ _ _ _ _ ⟨by decide, by decide⟩ ⟨by decide, by decide⟩ ⟨by decide, by decide⟩ ⟨by decide, by decide⟩ ⟨by decide, by decide⟩ ⟨by decide, by decide⟩ ⟨by decide, by decide⟩ ⟨by decide, by decide⟩).mono ?_; rintro e w' ⟨A', c', rfl, hr', hb'⟩; replace hacc := hacc.snoc hb' hr'; clear hb' hr')
    | (refine wpList_build_five rfl rfl rfl rfl rfl rfl rfl (abE_size _ _ _ _ _ _ _ _) (abE_size _ _ _ _ _ _ _ _) (abE_size _ _ _ _ _ _ _ _) (abE_size _ _ _ _ _ _ _ _) (abE_size _ _ _ _ _ _ _ _) ?_)
    | (refine wpList_store_five rfl rfl rfl rfl hacc.z (abE_size _ _ _ _ _ _ _ _) (abE_size _ _ _ _ _ _ _ _) (abE_size _ _ _ _ _ _ _ _) (abE_size _ _ _ _ _ _ _ _) (abE_size _ _ _ _ _ _ _ _)
        (abE_one _ _ _ _ _ _ _ _) (abE_one _ _ _ _ _ _ _ _) (abE_one _ _ _ _ _ _ _ _) (abE_one _ _ _ _ _ _ _ _) (abE_one _ _ _ _ _ _ _ _) ?_))
  refine five_end (p := 2) (by kernel_rfl) rfl rfl hacc ?_ ?_ ?_ ?_ ?_
  · exact flatSp _ _ _ _ _ _ _ _ ⟨by decide, by decide⟩ wide_no ⟨by decide, by decide⟩ ⟨by decide, by decide⟩ ⟨by decide, by decide⟩ ⟨by decide, by decide⟩ ⟨by decide, by decide⟩ rfl
  · exact flatSp _ _ _ _ _ _ _ _ ⟨by decide, by decide⟩ wide_no ⟨by decide, by decide⟩ ⟨by decide, by decide⟩ ⟨by decide, by decide⟩ ⟨by decide, by decide⟩ ⟨by decide, by decide⟩ rfl
  · exact flatSp _ _ _ _ _ _ _ _ ⟨by decide, by decide⟩ wide_no ⟨by decide, by decide⟩ ⟨by decide, by decide⟩ ⟨by decide, by decide⟩ ⟨by decide, by decide⟩ ⟨by decide, by decide⟩ rfl
  · exact flatSp _ _ _ _ _ _ _ _ ⟨by decide, by decide⟩ wide_no ⟨by decide, by decide⟩ ⟨by decide, by decide⟩ ⟨by decide, by decide⟩ ⟨by decide, by decide⟩ ⟨by decide, by decide⟩ rfl
  · exact flatSp _ _ _ _ _ _ _ _ ⟨by decide, by decide⟩ wide_no ⟨by decide, by decide⟩ ⟨by decide, by decide⟩ ⟨by decide, by decide⟩ ⟨by decide, by decide⟩ ⟨by decide, by decide⟩ rfl
theorem spells_1 (w : World) : Calls Tryd.prog 69 #[.int .i64 1] w (FiveQ (spellT 1) w) := by
  go_enter Tryd.func69, Tryd.ntmps69
  go_upto_region 1 with fail
  obtain ⟨w0, hw⟩ : ∃ W, W = w.alloc (.cells zero70 113) := ⟨_, rfl⟩
  have hacc : EAcc w zero70 113 w0 [] := by rw [hw]; exact ⟨(Below.refl _ _).alloc (Nat.le_refl _) _, heap_alloc_new _ _, by simp⟩
  rw [← hw]
  clear hw
  go_wp2_with (first
    | (go_at_call 64; refine (mk_effect _ _ _ _ _).mono ?_; rintro e w' ⟨rfl, hb'⟩; replace hacc := hacc.step hb'; clear hb')
    | (go_at_call 75; refine (mk_spell _ _ _ _ _ _ _ _ _).mono ?_; rintro e w' ⟨rfl, hb'⟩; replace hacc := hacc.step hb'; clear hb')
    | (go_at_call 63; refine (mk_at _ _ _ _ _ _ _ _ _).mono ?_; rintro e w' ⟨rfl, hb'⟩; replace hacc := hacc.step hb'; clear hb')
    | (go_at_call 78; refine (mk_active _ _ _ _ _ _ _ _ _ _ _).mono ?_; rintro e w' ⟨rfl, hb'⟩; replace hacc := hacc.step hb'; clear hb')
    | (go_at_call 68; refine (mk_price 0 _ _ _ (by decide) (by decide) (by decide) (by decide) (by decide)).mono ?_; rintro e w' ⟨rfl, hb'⟩; replace hacc := hacc.step hb'; clear hb')
    | (go_at_call 76; refine (mk_all _ _ _ _ _ ⟨by decide, by decide⟩ ⟨by decide, by decide⟩ ⟨by decide, by decide⟩ ⟨by decide, by decide⟩).mono ?_; rintro e w' ⟨A', c', rfl, hr', hb'⟩; replace hacc := hacc.snoc hb' hr'; clear hb' hr')
    | (go_at_call 77; refine (mk_seq _ _ _ _ _ _ _ _ _ ⟨by decide, by decide⟩ ⟨by decide, by decide⟩ ⟨by decide, by decide⟩ ⟨by decide, by decide⟩ ⟨by decide, by decide⟩ ⟨by decide, by decide⟩ ⟨by decide, by decide⟩ ⟨by decide, by decide⟩).mono ?_; rintro e w' ⟨A', c', rfl, hr', hb'⟩; replace hacc := hacc.snoc hb' hr'; clear hb' hr')
    | (refine wpList_build_five rfl rfl rfl rfl rfl rfl rfl (abE_size _ _ _ _ _ _ _ _) (abE_size _ _ _ _ _ _ _ _) (abE_size _ _ _ _ _ _ _ _) (abE_size _ _ _ _ _ _ _ _) (abE_size _ _ _ _ _ _ _ _) ?_)
    | (refine wpList_store_five rfl rfl rfl rfl hacc.z (abE_size _ _ _ _ _ _ _ _) (abE_size _ _ _ _ _ _ _ _) (abE_size _ _ _ _ _ _ _ _) (abE_size _ _ _ _ _ _ _ _) (abE_size _ _ _ _ _ _ _ _)
        (abE_one _ _ _ _ _ _ _ _) (abE_one _ _ _ _ _ _ _ _) (abE_one _ _ _ _ _ _ _ _) (abE_one _ _ _ _ _ _ _ _) (abE_one _ _ _ _ _ _ _ _) ?_))
  refine five_end (p := 2) (by kernel_rfl) rfl rfl hacc ?_ ?_ ?_ ?_ ?_
  · exact flatSp _ _ _ _ _ _ _ _ ⟨by decide, by decide⟩ wide_no ⟨by decide, by decide⟩ ⟨by decide, by decide⟩ ⟨by decide, by decide⟩ ⟨by decide, by decide⟩ ⟨by decide, by decide⟩ rfl
  · exact flatSp _ _ _ _ _ _ _ _ ⟨by decide, by decide⟩ wide_no ⟨by decide, by decide⟩ ⟨by decide, by decide⟩ ⟨by decide, by decide⟩ ⟨by decide, by decide⟩ ⟨by decide, by decide⟩ rfl
  · exact flatSp _ _ _ _ _ _ _ _ ⟨by decide, by decide⟩ wide_no ⟨by decide, by decide⟩ ⟨by decide, by decide⟩ ⟨by decide, by decide⟩ ⟨by decide, by decide⟩ ⟨by decide, by decide⟩ rfl
  · exact flatSp _ _ _ _ _ _ _ _ ⟨by decide, by decide⟩ wide_no ⟨by decide, by decide⟩ ⟨by decide, by decide⟩ ⟨by decide, by decide⟩ ⟨by decide, by decide⟩ ⟨by decide, by decide⟩ rfl
  · exact flatSp _ _ _ _ _ _ _ _ ⟨by decide, by decide⟩ wide_no ⟨by decide, by decide⟩ ⟨by decide, by decide⟩ ⟨by decide, by decide⟩ ⟨by decide, by decide⟩ ⟨by decide, by decide⟩ rfl
theorem spells_2 (w : World) : Calls Tryd.prog 69 #[.int .i64 2] w (FiveQ (spellT 2) w) := by
  go_enter Tryd.func69, Tryd.ntmps69
  go_upto_region 1 with fail
  obtain ⟨w0, hw⟩ : ∃ W, W = w.alloc (.cells zero70 113) := ⟨_, rfl⟩
  have hacc : EAcc w zero70 113 w0 [] := by rw [hw]; exact ⟨(Below.refl _ _).alloc (Nat.le_refl _) _, heap_alloc_new _ _, by simp⟩
  rw [← hw]
  clear hw
  go_wp2_with (first
    | (go_at_call 64; refine (mk_effect _ _ _ _ _).mono ?_; rintro e w' ⟨rfl, hb'⟩; replace hacc := hacc.step hb'; clear hb')
    | (go_at_call 75; refine (mk_spell _ _ _ _ _ _ _ _ _).mono ?_; rintro e w' ⟨rfl, hb'⟩; replace hacc := hacc.step hb'; clear hb')
    | (go_at_call 63; refine (mk_at _ _ _ _ _ _ _ _ _).mono ?_; rintro e w' ⟨rfl, hb'⟩; replace hacc := hacc.step hb'; clear hb')
    | (go_at_call 78; refine (mk_active _ _ _ _ _ _ _ _ _ _ _).mono ?_; rintro e w' ⟨rfl, hb'⟩; replace hacc := hacc.step hb'; clear hb')
    | (go_at_call 68; refine (mk_price 0 _ _ _ (by decide) (by decide) (by decide) (by decide) (by decide)).mono ?_; rintro e w' ⟨rfl, hb'⟩; replace hacc := hacc.step hb'; clear hb')
    | (go_at_call 76; refine (mk_all _ _ _ _ _ ⟨by decide, by decide⟩ ⟨by decide, by decide⟩ ⟨by decide, by decide⟩ ⟨by decide, by decide⟩).mono ?_; rintro e w' ⟨A', c', rfl, hr', hb'⟩; replace hacc := hacc.snoc hb' hr'; clear hb' hr')
    | (go_at_call 77; refine (mk_seq _ _ _ _ _ _ _ _ _ ⟨by decide, by decide⟩ ⟨by decide, by decide⟩ ⟨by decide, by decide⟩ ⟨by decide, by decide⟩ ⟨by decide, by decide⟩ ⟨by decide, by decide⟩ ⟨by decide, by decide⟩ ⟨by decide, by decide⟩).mono ?_; rintro e w' ⟨A', c', rfl, hr', hb'⟩; replace hacc := hacc.snoc hb' hr'; clear hb' hr')
    | (refine wpList_build_five rfl rfl rfl rfl rfl rfl rfl (abE_size _ _ _ _ _ _ _ _) (abE_size _ _ _ _ _ _ _ _) (abE_size _ _ _ _ _ _ _ _) (abE_size _ _ _ _ _ _ _ _) (abE_size _ _ _ _ _ _ _ _) ?_)
    | (refine wpList_store_five rfl rfl rfl rfl hacc.z (abE_size _ _ _ _ _ _ _ _) (abE_size _ _ _ _ _ _ _ _) (abE_size _ _ _ _ _ _ _ _) (abE_size _ _ _ _ _ _ _ _) (abE_size _ _ _ _ _ _ _ _)
        (abE_one _ _ _ _ _ _ _ _) (abE_one _ _ _ _ _ _ _ _) (abE_one _ _ _ _ _ _ _ _) (abE_one _ _ _ _ _ _ _ _) (abE_one _ _ _ _ _ _ _ _) ?_))
  refine five_end (p := 2) (by kernel_rfl) rfl rfl hacc ?_ ?_ ?_ ?_ ?_
  · exact ab_reads _ _ _ _ _ _ ⟨by decide, by decide⟩ wide_no ⟨by decide, by decide⟩ (hacc.get 0 rfl) rfl
  · exact flatSp _ _ _ _ _ _ _ _ ⟨by decide, by decide⟩ wide_no ⟨by decide, by decide⟩ ⟨by decide, by decide⟩ ⟨by decide, by decide⟩ ⟨by decide, by decide⟩ ⟨by decide, by decide⟩ rfl
  · exact flatSp _ _ _ _ _ _ _ _ ⟨by decide, by decide⟩ wide_no ⟨by decide, by decide⟩ ⟨by decide, by decide⟩ ⟨by decide, by decide⟩ ⟨by decide, by decide⟩ ⟨by decide, by decide⟩ rfl
  · exact flatSp _ _ _ _ _ _ _ _ ⟨by decide, by decide⟩ wide_no ⟨by decide, by decide⟩ ⟨by decide, by decide⟩ ⟨by decide, by decide⟩ ⟨by decide, by decide⟩ ⟨by decide, by decide⟩ rfl
  · exact flatSp _ _ _ _ _ _ _ _ ⟨by decide, by decide⟩ wide_no ⟨by decide, by decide⟩ ⟨by decide, by decide⟩ ⟨by decide, by decide⟩ ⟨by decide, by decide⟩ ⟨by decide, by decide⟩ rfl
theorem spells_3 (w : World) : Calls Tryd.prog 69 #[.int .i64 3] w (FiveQ (spellT 3) w) := by
  go_enter Tryd.func69, Tryd.ntmps69
  go_upto_region 1 with fail
  obtain ⟨w0, hw⟩ : ∃ W, W = w.alloc (.cells zero70 113) := ⟨_, rfl⟩
  have hacc : EAcc w zero70 113 w0 [] := by rw [hw]; exact ⟨(Below.refl _ _).alloc (Nat.le_refl _) _, heap_alloc_new _ _, by simp⟩
  rw [← hw]
  clear hw
  go_wp2_with (first
    | (go_at_call 64; refine (mk_effect _ _ _ _ _).mono ?_; rintro e w' ⟨rfl, hb'⟩; replace hacc := hacc.step hb'; clear hb')
    | (go_at_call 75; refine (mk_spell _ _ _ _ _ _ _ _ _).mono ?_; rintro e w' ⟨rfl, hb'⟩; replace hacc := hacc.step hb'; clear hb')
    | (go_at_call 63; refine (mk_at _ _ _ _ _ _ _ _ _).mono ?_; rintro e w' ⟨rfl, hb'⟩; replace hacc := hacc.step hb'; clear hb')
    | (go_at_call 78; refine (mk_active _ _ _ _ _ _ _ _ _ _ _).mono ?_; rintro e w' ⟨rfl, hb'⟩; replace hacc := hacc.step hb'; clear hb')
    | (go_at_call 68; refine (mk_price 0 _ _ _ (by decide) (by decide) (by decide) (by decide) (by decide)).mono ?_; rintro e w' ⟨rfl, hb'⟩; replace hacc := hacc.step hb'; clear hb')
    | (go_at_call 76; refine (mk_all _ _ _ _ _ ⟨by decide, by decide⟩ ⟨by decide, by decide⟩ ⟨by decide, by decide⟩ ⟨by decide, by decide⟩).mono ?_; rintro e w' ⟨A', c', rfl, hr', hb'⟩; replace hacc := hacc.snoc hb' hr'; clear hb' hr')
    | (go_at_call 77; refine (mk_seq _ _ _ _ _ _ _ _ _ ⟨by decide, by decide⟩ ⟨by decide, by decide⟩ ⟨by decide, by decide⟩ ⟨by decide, by decide⟩ ⟨by decide, by decide⟩ ⟨by decide, by decide⟩ ⟨by decide, by decide⟩ ⟨by decide, by decide⟩).mono ?_; rintro e w' ⟨A', c', rfl, hr', hb'⟩; replace hacc := hacc.snoc hb' hr'; clear hb' hr')
    | (refine wpList_build_five rfl rfl rfl rfl rfl rfl rfl (abE_size _ _ _ _ _ _ _ _) (abE_size _ _ _ _ _ _ _ _) (abE_size _ _ _ _ _ _ _ _) (abE_size _ _ _ _ _ _ _ _) (abE_size _ _ _ _ _ _ _ _) ?_)
    | (refine wpList_store_five rfl rfl rfl rfl hacc.z (abE_size _ _ _ _ _ _ _ _) (abE_size _ _ _ _ _ _ _ _) (abE_size _ _ _ _ _ _ _ _) (abE_size _ _ _ _ _ _ _ _) (abE_size _ _ _ _ _ _ _ _)
        (abE_one _ _ _ _ _ _ _ _) (abE_one _ _ _ _ _ _ _ _) (abE_one _ _ _ _ _ _ _ _) (abE_one _ _ _ _ _ _ _ _) (abE_one _ _ _ _ _ _ _ _) ?_))
  refine five_end (p := 2) (by kernel_rfl) rfl rfl hacc ?_ ?_ ?_ ?_ ?_
  · exact flatSp _ _ _ _ _ _ _ _ ⟨by decide, by decide⟩ wide_no ⟨by decide, by decide⟩ ⟨by decide, by decide⟩ ⟨by decide, by decide⟩ ⟨by decide, by decide⟩ ⟨by decide, by decide⟩ rfl
  · exact flatSp _ _ _ _ _ _ _ _ ⟨by decide, by decide⟩ wide_no ⟨by decide, by decide⟩ ⟨by decide, by decide⟩ ⟨by decide, by decide⟩ ⟨by decide, by decide⟩ ⟨by decide, by decide⟩ rfl
  · exact ab_reads _ _ _ _ _ _ ⟨by decide, by decide⟩ wide_no ⟨by decide, by decide⟩ (hacc.get 1 rfl) rfl
  · exact ab_reads _ _ _ _ _ _ ⟨by decide, by decide⟩ wide_no ⟨by decide, by decide⟩ (hacc.get 0 rfl) rfl
  · exact flatSp _ _ _ _ _ _ _ _ ⟨by decide, by decide⟩ wide_no ⟨by decide, by decide⟩ ⟨by decide, by decide⟩ ⟨by decide, by decide⟩ ⟨by decide, by decide⟩ ⟨by decide, by decide⟩ rfl
theorem spells_4 (w : World) : Calls Tryd.prog 69 #[.int .i64 4] w (FiveQ (spellT 4) w) := by
  go_enter Tryd.func69, Tryd.ntmps69
  go_upto_region 1 with fail
  obtain ⟨w0, hw⟩ : ∃ W, W = w.alloc (.cells zero70 113) := ⟨_, rfl⟩
  have hacc : EAcc w zero70 113 w0 [] := by rw [hw]; exact ⟨(Below.refl _ _).alloc (Nat.le_refl _) _, heap_alloc_new _ _, by simp⟩
  rw [← hw]
  clear hw
  go_wp2_with (first
    | (go_at_call 64; refine (mk_effect _ _ _ _ _).mono ?_; rintro e w' ⟨rfl, hb'⟩; replace hacc := hacc.step hb'; clear hb')
    | (go_at_call 75; refine (mk_spell _ _ _ _ _ _ _ _ _).mono ?_; rintro e w' ⟨rfl, hb'⟩; replace hacc := hacc.step hb'; clear hb')
    | (go_at_call 63; refine (mk_at _ _ _ _ _ _ _ _ _).mono ?_; rintro e w' ⟨rfl, hb'⟩; replace hacc := hacc.step hb'; clear hb')
    | (go_at_call 78; refine (mk_active _ _ _ _ _ _ _ _ _ _ _).mono ?_; rintro e w' ⟨rfl, hb'⟩; replace hacc := hacc.step hb'; clear hb')
    | (go_at_call 68; refine (mk_price 0 _ _ _ (by decide) (by decide) (by decide) (by decide) (by decide)).mono ?_; rintro e w' ⟨rfl, hb'⟩; replace hacc := hacc.step hb'; clear hb')
    | (go_at_call 76; refine (mk_all _ _ _ _ _ ⟨by decide, by decide⟩ ⟨by decide, by decide⟩ ⟨by decide, by decide⟩ ⟨by decide, by decide⟩).mono ?_; rintro e w' ⟨A', c', rfl, hr', hb'⟩; replace hacc := hacc.snoc hb' hr'; clear hb' hr')
    | (go_at_call 77; refine (mk_seq _ _ _ _ _ _ _ _ _ ⟨by decide, by decide⟩ ⟨by decide, by decide⟩ ⟨by decide, by decide⟩ ⟨by decide, by decide⟩ ⟨by decide, by decide⟩ ⟨by decide, by decide⟩ ⟨by decide, by decide⟩ ⟨by decide, by decide⟩).mono ?_; rintro e w' ⟨A', c', rfl, hr', hb'⟩; replace hacc := hacc.snoc hb' hr'; clear hb' hr')
    | (refine wpList_build_five rfl rfl rfl rfl rfl rfl rfl (abE_size _ _ _ _ _ _ _ _) (abE_size _ _ _ _ _ _ _ _) (abE_size _ _ _ _ _ _ _ _) (abE_size _ _ _ _ _ _ _ _) (abE_size _ _ _ _ _ _ _ _) ?_)
    | (refine wpList_store_five rfl rfl rfl rfl hacc.z (abE_size _ _ _ _ _ _ _ _) (abE_size _ _ _ _ _ _ _ _) (abE_size _ _ _ _ _ _ _ _) (abE_size _ _ _ _ _ _ _ _) (abE_size _ _ _ _ _ _ _ _)
        (abE_one _ _ _ _ _ _ _ _) (abE_one _ _ _ _ _ _ _ _) (abE_one _ _ _ _ _ _ _ _) (abE_one _ _ _ _ _ _ _ _) (abE_one _ _ _ _ _ _ _ _) ?_))
  refine five_end (p := 2) (by kernel_rfl) rfl rfl hacc ?_ ?_ ?_ ?_ ?_
  · exact ab_reads _ _ _ _ _ _ ⟨by decide, by decide⟩ wide_no ⟨by decide, by decide⟩ (hacc.get 0 rfl) rfl
  · exact flatSp _ _ _ _ _ _ _ _ ⟨by decide, by decide⟩ wide_no ⟨by decide, by decide⟩ ⟨by decide, by decide⟩ ⟨by decide, by decide⟩ ⟨by decide, by decide⟩ ⟨by decide, by decide⟩ rfl
  · exact flatSp _ _ _ _ _ _ _ _ ⟨by decide, by decide⟩ wide_no ⟨by decide, by decide⟩ ⟨by decide, by decide⟩ ⟨by decide, by decide⟩ ⟨by decide, by decide⟩ ⟨by decide, by decide⟩ rfl
  · exact flatSp _ _ _ _ _ _ _ _ ⟨by decide, by decide⟩ wide_no ⟨by decide, by decide⟩ ⟨by decide, by decide⟩ ⟨by decide, by decide⟩ ⟨by decide, by decide⟩ ⟨by decide, by decide⟩ rfl
  · exact flatSp _ _ _ _ _ _ _ _ ⟨by decide, by decide⟩ wide_no ⟨by decide, by decide⟩ ⟨by decide, by decide⟩ ⟨by decide, by decide⟩ ⟨by decide, by decide⟩ ⟨by decide, by decide⟩ rfl
theorem relics_0 (w : World) : Calls Tryd.prog 71 #[.int .i64 0] w (FiveQ (relicT 0) w) := by
  go_enter Tryd.func71, Tryd.ntmps71
  go_upto_region 1 with fail
  obtain ⟨w0, hw⟩ : ∃ W, W = w.alloc (.cells zero70 113) := ⟨_, rfl⟩
  have hacc : EAcc w zero70 113 w0 [] := by rw [hw]; exact ⟨(Below.refl _ _).alloc (Nat.le_refl _) _, heap_alloc_new _ _, by simp⟩
  rw [← hw]
  clear hw
  go_wp2_with (first
    | (go_at_call 64; refine (mk_effect _ _ _ _ _).mono ?_; rintro e w' ⟨rfl, hb'⟩; replace hacc := hacc.step hb'; clear hb')
    | (go_at_call 75; refine (mk_spell _ _ _ _ _ _ _ _ _).mono ?_; rintro e w' ⟨rfl, hb'⟩; replace hacc := hacc.step hb'; clear hb')
    | (go_at_call 63; refine (mk_at _ _ _ _ _ _ _ _ _).mono ?_; rintro e w' ⟨rfl, hb'⟩; replace hacc := hacc.step hb'; clear hb')
    | (go_at_call 78; refine (mk_active _ _ _ _ _ _ _ _ _ _ _).mono ?_; rintro e w' ⟨rfl, hb'⟩; replace hacc := hacc.step hb'; clear hb')
    | (go_at_call 68; refine (mk_price 5 _ _ _ (by decide) (by decide) (by decide) (by decide) (by decide)).mono ?_; rintro e w' ⟨rfl, hb'⟩; replace hacc := hacc.step hb'; clear hb')
    | (go_at_call 76; refine (mk_all _ _ _ _ _ ⟨by decide, by decide⟩ ⟨by decide, by decide⟩ ⟨by decide, by decide⟩ ⟨by decide, by decide⟩).mono ?_; rintro e w' ⟨A', c', rfl, hr', hb'⟩; replace hacc := hacc.snoc hb' hr'; clear hb' hr')
    | (go_at_call 77; refine (mk_seq _ _ _ _ _ _ _ _ _ ⟨by decide, by decide⟩ ⟨by decide, by decide⟩ ⟨by decide, by decide⟩ ⟨by decide, by decide⟩ ⟨by decide, by decide⟩ ⟨by decide, by decide⟩ ⟨by decide, by decide⟩ ⟨by decide, by decide⟩).mono ?_; rintro e w' ⟨A', c', rfl, hr', hb'⟩; replace hacc := hacc.snoc hb' hr'; clear hb' hr')
    | (refine wpList_build_five rfl rfl rfl rfl rfl rfl rfl (abE_size _ _ _ _ _ _ _ _) (abE_size _ _ _ _ _ _ _ _) (abE_size _ _ _ _ _ _ _ _) (abE_size _ _ _ _ _ _ _ _) (abE_size _ _ _ _ _ _ _ _) ?_)
    | (refine wpList_store_five rfl rfl rfl rfl hacc.z (abE_size _ _ _ _ _ _ _ _) (abE_size _ _ _ _ _ _ _ _) (abE_size _ _ _ _ _ _ _ _) (abE_size _ _ _ _ _ _ _ _) (abE_size _ _ _ _ _ _ _ _)
        (abE_one _ _ _ _ _ _ _ _) (abE_one _ _ _ _ _ _ _ _) (abE_one _ _ _ _ _ _ _ _) (abE_one _ _ _ _ _ _ _ _) (abE_one _ _ _ _ _ _ _ _) ?_))
  refine five_end (p := 2) (by kernel_rfl) rfl rfl hacc ?_ ?_ ?_ ?_ ?_
  · exact ab_reads _ _ _ _ _ _ ⟨by decide, by decide⟩ wide_no ⟨by decide, by decide⟩ (hacc.get 4 rfl) rfl
  · exact ab_reads _ _ _ _ _ _ ⟨by decide, by decide⟩ wide_no ⟨by decide, by decide⟩ (hacc.get 3 rfl) rfl
  · exact ab_reads _ _ _ _ _ _ ⟨by decide, by decide⟩ wide_no ⟨by decide, by decide⟩ (hacc.get 2 rfl) rfl
  · exact ab_reads _ _ _ _ _ _ ⟨by decide, by decide⟩ wide_no ⟨by decide, by decide⟩ (hacc.get 1 rfl) rfl
  · exact ab_reads _ _ _ _ _ _ ⟨by decide, by decide⟩ wide_no ⟨by decide, by decide⟩ (hacc.get 0 rfl) rfl
theorem relics_1 (w : World) : Calls Tryd.prog 71 #[.int .i64 1] w (FiveQ (relicT 1) w) := by
  go_enter Tryd.func71, Tryd.ntmps71
  go_upto_region 1 with fail
  obtain ⟨w0, hw⟩ : ∃ W, W = w.alloc (.cells zero70 113) := ⟨_, rfl⟩
  have hacc : EAcc w zero70 113 w0 [] := by rw [hw]; exact ⟨(Below.refl _ _).alloc (Nat.le_refl _) _, heap_alloc_new _ _, by simp⟩
  rw [← hw]
  clear hw
  go_wp2_with (first
    | (go_at_call 64; refine (mk_effect _ _ _ _ _).mono ?_; rintro e w' ⟨rfl, hb'⟩; replace hacc := hacc.step hb'; clear hb')
    | (go_at_call 75; refine (mk_spell _ _ _ _ _ _ _ _ _).mono ?_; rintro e w' ⟨rfl, hb'⟩; replace hacc := hacc.step hb'; clear hb')
    | (go_at_call 63; refine (mk_at _ _ _ _ _ _ _ _ _).mono ?_; rintro e w' ⟨rfl, hb'⟩; replace hacc := hacc.step hb'; clear hb')
    | (go_at_call 78; refine (mk_active _ _ _ _ _ _ _ _ _ _ _).mono ?_; rintro e w' ⟨rfl, hb'⟩; replace hacc := hacc.step hb'; clear hb')
    | (go_at_call 68; refine (mk_price 5 _ _ _ (by decide) (by decide) (by decide) (by decide) (by decide)).mono ?_; rintro e w' ⟨rfl, hb'⟩; replace hacc := hacc.step hb'; clear hb')
    | (go_at_call 76; refine (mk_all _ _ _ _ _ ⟨by decide, by decide⟩ ⟨by decide, by decide⟩ ⟨by decide, by decide⟩ ⟨by decide, by decide⟩).mono ?_; rintro e w' ⟨A', c', rfl, hr', hb'⟩; replace hacc := hacc.snoc hb' hr'; clear hb' hr')
    | (go_at_call 77; refine (mk_seq _ _ _ _ _ _ _ _ _ ⟨by decide, by decide⟩ ⟨by decide, by decide⟩ ⟨by decide, by decide⟩ ⟨by decide, by decide⟩ ⟨by decide, by decide⟩ ⟨by decide, by decide⟩ ⟨by decide, by decide⟩ ⟨by decide, by decide⟩).mono ?_; rintro e w' ⟨A', c', rfl, hr', hb'⟩; replace hacc := hacc.snoc hb' hr'; clear hb' hr')
    | (refine wpList_build_five rfl rfl rfl rfl rfl rfl rfl (abE_size _ _ _ _ _ _ _ _) (abE_size _ _ _ _ _ _ _ _) (abE_size _ _ _ _ _ _ _ _) (abE_size _ _ _ _ _ _ _ _) (abE_size _ _ _ _ _ _ _ _) ?_)
    | (refine wpList_store_five rfl rfl rfl rfl hacc.z (abE_size _ _ _ _ _ _ _ _) (abE_size _ _ _ _ _ _ _ _) (abE_size _ _ _ _ _ _ _ _) (abE_size _ _ _ _ _ _ _ _) (abE_size _ _ _ _ _ _ _ _)
        (abE_one _ _ _ _ _ _ _ _) (abE_one _ _ _ _ _ _ _ _) (abE_one _ _ _ _ _ _ _ _) (abE_one _ _ _ _ _ _ _ _) (abE_one _ _ _ _ _ _ _ _) ?_))
  refine five_end (p := 2) (by kernel_rfl) rfl rfl hacc ?_ ?_ ?_ ?_ ?_
  · exact flatSp _ _ _ _ _ _ _ _ ⟨by decide, by decide⟩ wide_no ⟨by decide, by decide⟩ ⟨by decide, by decide⟩ ⟨by decide, by decide⟩ ⟨by decide, by decide⟩ ⟨by decide, by decide⟩ rfl
  · exact flatSp _ _ _ _ _ _ _ _ ⟨by decide, by decide⟩ wide_no ⟨by decide, by decide⟩ ⟨by decide, by decide⟩ ⟨by decide, by decide⟩ ⟨by decide, by decide⟩ ⟨by decide, by decide⟩ rfl
  · exact flatSp _ _ _ _ _ _ _ _ ⟨by decide, by decide⟩ wide_no ⟨by decide, by decide⟩ ⟨by decide, by decide⟩ ⟨by decide, by decide⟩ ⟨by decide, by decide⟩ ⟨by decide, by decide⟩ rfl
  · exact flatSp _ _ _ _ _ _ _ _ ⟨by decide, by decide⟩ wide_no ⟨by decide, by decide⟩ ⟨by decide, by decide⟩ ⟨by decide, by decide⟩ ⟨by decide, by decide⟩ ⟨by decide, by decide⟩ rfl
  · exact flatSp _ _ _ _ _ _ _ _ ⟨by decide, by decide⟩ wide_no ⟨by decide, by decide⟩ ⟨by decide, by decide⟩ ⟨by decide, by decide⟩ ⟨by decide, by decide⟩ ⟨by decide, by decide⟩ rfl
theorem relics_3 (w : World) : Calls Tryd.prog 71 #[.int .i64 3] w (FiveQ (relicT 3) w) := by
  go_enter Tryd.func71, Tryd.ntmps71
  go_upto_region 1 with fail
  obtain ⟨w0, hw⟩ : ∃ W, W = w.alloc (.cells zero70 113) := ⟨_, rfl⟩
  have hacc : EAcc w zero70 113 w0 [] := by rw [hw]; exact ⟨(Below.refl _ _).alloc (Nat.le_refl _) _, heap_alloc_new _ _, by simp⟩
  rw [← hw]
  clear hw
  go_wp2_with (first
    | (go_at_call 64; refine (mk_effect _ _ _ _ _).mono ?_; rintro e w' ⟨rfl, hb'⟩; replace hacc := hacc.step hb'; clear hb')
    | (go_at_call 75; refine (mk_spell _ _ _ _ _ _ _ _ _).mono ?_; rintro e w' ⟨rfl, hb'⟩; replace hacc := hacc.step hb'; clear hb')
    | (go_at_call 63; refine (mk_at _ _ _ _ _ _ _ _ _).mono ?_; rintro e w' ⟨rfl, hb'⟩; replace hacc := hacc.step hb'; clear hb')
    | (go_at_call 78; refine (mk_active _ _ _ _ _ _ _ _ _ _ _).mono ?_; rintro e w' ⟨rfl, hb'⟩; replace hacc := hacc.step hb'; clear hb')
    | (go_at_call 68; refine (mk_price 1 _ _ _ (by decide) (by decide) (by decide) (by decide) (by decide)).mono ?_; rintro e w' ⟨rfl, hb'⟩; replace hacc := hacc.step hb'; clear hb')
    | (go_at_call 76; refine (mk_all _ _ _ _ _ ⟨by decide, by decide⟩ ⟨by decide, by decide⟩ ⟨by decide, by decide⟩ ⟨by decide, by decide⟩).mono ?_; rintro e w' ⟨A', c', rfl, hr', hb'⟩; replace hacc := hacc.snoc hb' hr'; clear hb' hr')
    | (go_at_call 77; refine (mk_seq _ _ _ _ _ _ _ _ _ ⟨by decide, by decide⟩ ⟨by decide, by decide⟩ ⟨by decide, by decide⟩ ⟨by decide, by decide⟩ ⟨by decide, by decide⟩ ⟨by decide, by decide⟩ ⟨by decide, by decide⟩ ⟨by decide, by decide⟩).mono ?_; rintro e w' ⟨A', c', rfl, hr', hb'⟩; replace hacc := hacc.snoc hb' hr'; clear hb' hr')
    | (refine wpList_build_five rfl rfl rfl rfl rfl rfl rfl (abE_size _ _ _ _ _ _ _ _) (abE_size _ _ _ _ _ _ _ _) (abE_size _ _ _ _ _ _ _ _) (abE_size _ _ _ _ _ _ _ _) (abE_size _ _ _ _ _ _ _ _) ?_)
    | (refine wpList_store_five rfl rfl rfl rfl hacc.z (abE_size _ _ _ _ _ _ _ _) (abE_size _ _ _ _ _ _ _ _) (abE_size _ _ _ _ _ _ _ _) (abE_size _ _ _ _ _ _ _ _) (abE_size _ _ _ _ _ _ _ _)
        (abE_one _ _ _ _ _ _ _ _) (abE_one _ _ _ _ _ _ _ _) (abE_one _ _ _ _ _ _ _ _) (abE_one _ _ _ _ _ _ _ _) (abE_one _ _ _ _ _ _ _ _) ?_))
  refine five_end (p := 2) (by kernel_rfl) rfl rfl hacc ?_ ?_ ?_ ?_ ?_
  · exact ab_reads _ _ _ _ _ _ ⟨by decide, by decide⟩ wide_no ⟨by decide, by decide⟩ (hacc.get 1 rfl) rfl
  · exact flatSp _ _ _ _ _ _ _ _ ⟨by decide, by decide⟩ (by rw [price_only (by decide)]; exact wide_one) ⟨by decide, by decide⟩ ⟨by decide, by decide⟩ ⟨by decide, by decide⟩ ⟨by decide, by decide⟩ ⟨by decide, by decide⟩ (by rw [price_only (by decide)]; rfl)
  · exact ab_reads _ _ _ _ _ _ ⟨by decide, by decide⟩ wide_no ⟨by decide, by decide⟩ (hacc.get 0 rfl) rfl
  · exact flatSp _ _ _ _ _ _ _ _ ⟨by decide, by decide⟩ wide_no ⟨by decide, by decide⟩ ⟨by decide, by decide⟩ ⟨by decide, by decide⟩ ⟨by decide, by decide⟩ ⟨by decide, by decide⟩ rfl
  · exact flatSp _ _ _ _ _ _ _ _ ⟨by decide, by decide⟩ wide_no ⟨by decide, by decide⟩ ⟨by decide, by decide⟩ ⟨by decide, by decide⟩ ⟨by decide, by decide⟩ ⟨by decide, by decide⟩ rfl
end Go.Proofs.YtplfblccaeligaaDoor
namespace Go.Proofs.YtplfblccaeligaaDoor
open Go.RowKit Ex Mx
set_option maxRecDepth 100000
/-- What the last statement's steps keep: the price's box. -/
structure RelS (w : World) (P : Nat) (W : World) : Prop where
  b : Below w.heap.size w W
  p : ArrAt .i64 6 52 W P (priceF 5 1 0)
theorem RelS.step {w W W' : World} {P : Nat} (h : RelS w P W) (hb : Below W.heap.size W W') : RelS w P W' := ⟨keepB hb h.b, h.p.keep hb⟩
theorem yields_five {ops : Array Oper} {S : World → Prop} {op : Oper} {a : Act} (hw : Region.wanted op (yielded ops a.tmps) = true) {y0 y1 y2 y3 y4 : Operand}
    (ho : op.op = .build 113 #[(0, y0), (1, y1), (2, y2), (3, y3), (4, y4)]) {a0 a1 a2 a3 a4 : Array Value} (e0 : a.eval y0 = .agg a0) (e1 : a.eval y1 = .agg a1) (e2 : a.eval y2 = .agg a2) (e3 : a.eval y3 = .agg a3) (e4 : a.eval y4 = .agg a4)
    (h0 : a0.size = 14) (h1 : a1.size = 14) (h2 : a2.size = 14) (h3 : a3.size = 14) (h4 : a4.size = 14) : YieldsIf Tryd.prog ops S op (.agg (a0 ++ a1 ++ a2 ++ a3 ++ a4)) a :=
  .inl ⟨hw, fun w _ => by
    unfold execOp
    simp only [ho, List.map_toArray, List.map_cons, List.map_nil, e0, e1, e2, e3, e4, Sem.run_bind, Sem.run_pure]
    rw [build_five h0 h1 h2 h3 h4 w]
    rfl⟩
set_option linter.unusedSimpArgs false in
theorem relics_2 (w : World) : Calls Tryd.prog 71 #[.int .i64 2] w (FiveQ (relicT 2) w) := by
  go_enter Tryd.func71, Tryd.ntmps71
  go_upto_region 1 with fail
  obtain ⟨w0, hw⟩ : ∃ W, W = w.alloc (.cells zero70 113) := ⟨_, rfl⟩
  have hacc : EAcc w zero70 113 w0 [] := by rw [hw]; exact ⟨(Below.refl _ _).alloc (Nat.le_refl _) _, heap_alloc_new _ _, by simp⟩
  rw [← hw]
  clear hw
  go_wp2_with fail
  refine (mk_price 5 1 0 _ (by decide) (by decide) (by decide) (by decide) (by decide)).mono ?_
  rintro e w1 ⟨rfl, hb1⟩
  replace hacc := hacc.step hb1
  have hlt1 := hacc.lt
  have hnew : (w1.alloc (.cells #[.int .i64 0, .int .i64 0, .int .i64 0, .int .i64 0, .int .i64 0, .int .i64 0] 52)).heap[w1.heap.size]? = some (.cells #[.int .i64 0, .int .i64 0, .int .i64 0, .int .i64 0, .int .i64 0, .int .i64 0] 52 (0, 0)) := heap_alloc_new _ _
  have hs6 : (Tryd.prog.info? 52).map (·.size) = some (arr .i64 6 (priceF 5 1 0)).size := by rw [arr_size]; kernel_rfl
  go_upto_region 8 with (refine wpList_store_row rfl 52 (.tmp 3) (.tmp 33) rfl w1.heap.size _ rfl rfl 52 _ hnew hs6 (by rw [arr_size]; rfl) (arr_one _ _ _) ?_)
  obtain ⟨w2, hw⟩ : ∃ W, W = (w1.alloc (.cells #[.int .i64 0, .int .i64 0, .int .i64 0, .int .i64 0, .int .i64 0, .int .i64 0] 52)).setRow w1.heap.size (arr .i64 6 (priceF 5 1 0)) := ⟨_, rfl⟩
  have hP : ArrAt .i64 6 52 w2 w1.heap.size (priceF 5 1 0) := by rw [hw]; exact setRow_heap _ _ _ _ _ _ hnew
  have hb2 : Below w1.heap.size w1 w2 := by rw [hw]; exact below_setRow ((Below.refl _ _).alloc (Nat.le_refl _) _) _ _ (Nat.le_refl _)
  replace hacc := hacc.step hb2
  rw [← hw]
  clear hw hnew hs6 hb1 hb2
  have hne : w1.heap.size ≠ w.heap.size := by have := hlt1; omega
  refine wp_region_held_drew (S := fun W => RelS w w1.heap.size W) (by kernel_rfl) ⟨hacc.b.drew, hP.drew⟩ (fun hHeld => ?_)
  replace hacc := hacc.step (Below.refl _ _).drew
  clear hP
  refine wpAnyH_take (i := 0) (v := .agg (arr .i64 6 (priceF 5 1 0))) rfl (by kernel_rfl) (by kernel_rfl) (by kernel_rfl) (fun _ _ _ h => h) (yieldsIf_load (by rfl) 52 (.tmp 3) rfl w1.heap.size rfl (fun W hW => hW.p) Tryd.underlying52 (by kernel_rfl)) hHeld ?_
  simp only [Act.put, List.getElem_toArray, List.getElem_cons_zero, List.getElem_cons_succ, List.setIfInBounds_toArray, List.set_cons_zero, List.set_cons_succ]
  refine wpAnyH_take (i := 3) (v := .agg (arr .i64 6 (priceF 5 1 0))) rfl (by kernel_rfl) (by kernel_rfl) (by kernel_rfl) (fun _ _ _ h => h) (yieldsIf_load (by rfl) 52 (.tmp 3) rfl w1.heap.size rfl (fun W hW => hW.p) Tryd.underlying52 (by kernel_rfl)) hHeld ?_
  simp only [Act.put, List.getElem_toArray, List.getElem_cons_zero, List.getElem_cons_succ, List.setIfInBounds_toArray, List.set_cons_zero, List.set_cons_succ]
  refine wpAnyH_take (i := 6) (v := .agg (arr .i64 6 (priceF 5 1 0))) rfl (by kernel_rfl) (by kernel_rfl) (by kernel_rfl) (fun _ _ _ h => h) (yieldsIf_load (by rfl) 52 (.tmp 3) rfl w1.heap.size rfl (fun W hW => hW.p) Tryd.underlying52 (by kernel_rfl)) hHeld ?_
  simp only [Act.put, List.getElem_toArray, List.getElem_cons_zero, List.getElem_cons_succ, List.setIfInBounds_toArray, List.set_cons_zero, List.set_cons_succ]
  refine wpAnyH_take (i := 9) (v := .agg (arr .i64 6 (priceF 5 1 0))) rfl (by kernel_rfl) (by kernel_rfl) (by kernel_rfl) (fun _ _ _ h => h) (yieldsIf_load (by rfl) 52 (.tmp 3) rfl w1.heap.size rfl (fun W hW => hW.p) Tryd.underlying52 (by kernel_rfl)) hHeld ?_
  simp only [Act.put, List.getElem_toArray, List.getElem_cons_zero, List.getElem_cons_succ, List.setIfInBounds_toArray, List.set_cons_zero, List.set_cons_succ]
  refine wpAnyH_take (i := 12) (v := .agg (arr .i64 6 (priceF 5 1 0))) rfl (by kernel_rfl) (by kernel_rfl) (by kernel_rfl) (fun _ _ _ h => h) (yieldsIf_load (by rfl) 52 (.tmp 3) rfl w1.heap.size rfl (fun W hW => hW.p) Tryd.underlying52 (by kernel_rfl)) hHeld ?_
  simp only [Act.put, List.getElem_toArray, List.getElem_cons_zero, List.getElem_cons_succ, List.setIfInBounds_toArray, List.set_cons_zero, List.set_cons_succ]
  refine wpAnyH_ready (rs := [1]) (by kernel_rfl) (by simp) ?_
  refine AllReadyH.cons rfl (fun K hK => ?_) AllReadyH.nil
  simp only [List.getElem_toArray, List.getElem_cons_zero, List.getElem_cons_succ]
  go_simp
  refine (mk_effect _ _ _ _ _).mono ?_
  rintro e w' ⟨rfl, hb'⟩
  go_wp2_with fail
  replace hHeld := hHeld.step hb'
  replace hacc := hacc.step hb'
  refine hK.out _ _ hHeld (fun _ => ?_)
  clear hK K hb'
  try simp only [Act.put, List.setIfInBounds_toArray, List.set_cons_zero, List.set_cons_succ]
  refine wpAnyH_ready (rs := [2]) (by kernel_rfl) (by simp) ?_
  refine AllReadyH.cons rfl (fun K hK => ?_) AllReadyH.nil
  simp only [List.getElem_toArray, List.getElem_cons_zero, List.getElem_cons_succ]
  go_simp
  refine (mk_active _ _ _ _ _ _ _ _ _ _ _).mono ?_
  rintro e w' ⟨rfl, hb'⟩
  go_wp2_with fail
  replace hHeld := hHeld.step hb'
  replace hacc := hacc.step hb'
  refine hK.out _ _ hHeld (fun _ => ?_)
  clear hK K hb'
  try simp only [Act.put, List.setIfInBounds_toArray, List.set_cons_zero, List.set_cons_succ]
  refine wpAnyH_ready (rs := [4]) (by kernel_rfl) (by simp) ?_
  refine AllReadyH.cons rfl (fun K hK => ?_) AllReadyH.nil
  simp only [List.getElem_toArray, List.getElem_cons_zero, List.getElem_cons_succ]
  go_simp
  refine (mk_effect _ _ _ _ _).mono ?_
  rintro e w' ⟨rfl, hb'⟩
  go_wp2_with fail
  replace hHeld := hHeld.step hb'
  replace hacc := hacc.step hb'
  refine hK.out _ _ hHeld (fun _ => ?_)
  clear hK K hb'
  try simp only [Act.put, List.setIfInBounds_toArray, List.set_cons_zero, List.set_cons_succ]
  refine wpAnyH_ready (rs := [5]) (by kernel_rfl) (by simp) ?_
  refine AllReadyH.cons rfl (fun K hK => ?_) AllReadyH.nil
  simp only [List.getElem_toArray, List.getElem_cons_zero, List.getElem_cons_succ]
  go_simp
  refine (mk_active _ _ _ _ _ _ _ _ _ _ _).mono ?_
  rintro e w' ⟨rfl, hb'⟩
  go_wp2_with fail
  replace hHeld := hHeld.step hb'
  replace hacc := hacc.step hb'
  refine hK.out _ _ hHeld (fun _ => ?_)
  clear hK K hb'
  try simp only [Act.put, List.setIfInBounds_toArray, List.set_cons_zero, List.set_cons_succ]
  refine wpAnyH_ready (rs := [7]) (by kernel_rfl) (by simp) ?_
  refine AllReadyH.cons rfl (fun K hK => ?_) AllReadyH.nil
  simp only [List.getElem_toArray, List.getElem_cons_zero, List.getElem_cons_succ]
  go_simp
  refine (mk_effect _ _ _ _ _).mono ?_
  rintro e w' ⟨rfl, hb'⟩
  go_wp2_with fail
  replace hHeld := hHeld.step hb'
  replace hacc := hacc.step hb'
  refine hK.out _ _ hHeld (fun _ => ?_)
  clear hK K hb'
  try simp only [Act.put, List.setIfInBounds_toArray, List.set_cons_zero, List.set_cons_succ]
  refine wpAnyH_ready (rs := [8]) (by kernel_rfl) (by simp) ?_
  refine AllReadyH.cons rfl (fun K hK => ?_) AllReadyH.nil
  simp only [List.getElem_toArray, List.getElem_cons_zero, List.getElem_cons_succ]
  go_simp
  refine (mk_active _ _ _ _ _ _ _ _ _ _ _).mono ?_
  rintro e w' ⟨rfl, hb'⟩
  go_wp2_with fail
  replace hHeld := hHeld.step hb'
  replace hacc := hacc.step hb'
  refine hK.out _ _ hHeld (fun _ => ?_)
  clear hK K hb'
  try simp only [Act.put, List.setIfInBounds_toArray, List.set_cons_zero, List.set_cons_succ]
  refine wpAnyH_ready (rs := [10]) (by kernel_rfl) (by simp) ?_
  refine AllReadyH.cons rfl (fun K hK => ?_) AllReadyH.nil
  simp only [List.getElem_toArray, List.getElem_cons_zero, List.getElem_cons_succ]
  go_simp
  refine (mk_effect _ _ _ _ _).mono ?_
  rintro e w' ⟨rfl, hb'⟩
  go_wp2_with fail
  replace hHeld := hHeld.step hb'
  replace hacc := hacc.step hb'
  refine hK.out _ _ hHeld (fun _ => ?_)
  clear hK K hb'
  try simp only [Act.put, List.setIfInBounds_toArray, List.set_cons_zero, List.set_cons_succ]
  refine wpAnyH_ready (rs := [11]) (by kernel_rfl) (by simp) ?_
  refine AllReadyH.cons rfl (fun K hK => ?_) AllReadyH.nil
  simp only [List.getElem_toArray, List.getElem_cons_zero, List.getElem_cons_succ]
  go_simp
  refine (mk_active _ _ _ _ _ _ _ _ _ _ _).mono ?_
  rintro e w' ⟨rfl, hb'⟩
  go_wp2_with fail
  replace hHeld := hHeld.step hb'
  replace hacc := hacc.step hb'
  refine hK.out _ _ hHeld (fun _ => ?_)
  clear hK K hb'
  try simp only [Act.put, List.setIfInBounds_toArray, List.set_cons_zero, List.set_cons_succ]
  refine wpAnyH_ready (rs := [13]) (by kernel_rfl) (by simp) ?_
  refine AllReadyH.cons rfl (fun K hK => ?_) AllReadyH.nil
  simp only [List.getElem_toArray, List.getElem_cons_zero, List.getElem_cons_succ]
  go_simp
  refine (mk_effect _ _ _ _ _).mono ?_
  rintro e w' ⟨rfl, hb'⟩
  go_wp2_with fail
  replace hHeld := hHeld.step hb'
  replace hacc := hacc.step hb'
  refine hK.out _ _ hHeld (fun _ => ?_)
  clear hK K hb'
  try simp only [Act.put, List.setIfInBounds_toArray, List.set_cons_zero, List.set_cons_succ]
  refine wpAnyH_ready (rs := [14]) (by kernel_rfl) (by simp) ?_
  refine AllReadyH.cons rfl (fun K hK => ?_) AllReadyH.nil
  simp only [List.getElem_toArray, List.getElem_cons_zero, List.getElem_cons_succ]
  go_simp
  refine (mk_active _ _ _ _ _ _ _ _ _ _ _).mono ?_
  rintro e w' ⟨rfl, hb'⟩
  go_wp2_with fail
  replace hHeld := hHeld.step hb'
  replace hacc := hacc.step hb'
  refine hK.out _ _ hHeld (fun _ => ?_)
  clear hK K hb'
  try simp only [Act.put, List.setIfInBounds_toArray, List.set_cons_zero, List.set_cons_succ]
  refine wpAnyH_take (i := 15) (v := .agg (abC ⟨1, priceF 5 1 0, true, 1, .node 10 0 1 2 []⟩ (evC 10 0 1 2 none 0 0) ++ abC ⟨1, priceF 5 1 0, true, 1, .node 12 0 0 2 []⟩ (evC 12 0 0 2 none 0 0) ++ abC ⟨1, priceF 5 1 0, true, 0, .node 3 1 0 1 []⟩ (evC 3 1 0 1 none 0 0) ++ abC ⟨1, priceF 5 1 0, true, 3, .node 1 1 0 2 []⟩ (evC 1 1 0 2 none 0 0) ++ abC ⟨1, priceF 5 1 0, true, 1, .node 13 0 0 2 []⟩ (evC 13 0 0 2 none 0 0))) rfl (by kernel_rfl) (by kernel_rfl) (by kernel_rfl) (fun _ _ _ h => h) (yields_five rfl rfl rfl rfl rfl rfl rfl (abE_size _ _ _ _ _ _ _ _) (abE_size _ _ _ _ _ _ _ _) (abE_size _ _ _ _ _ _ _ _) (abE_size _ _ _ _ _ _ _ _) (abE_size _ _ _ _ _ _ _ _)) hHeld ?_
  simp only [Act.put, List.getElem_toArray, List.getElem_cons_zero, List.getElem_cons_succ, List.setIfInBounds_toArray, List.set_cons_zero, List.set_cons_succ]
  refine wpAnyH_ready (rs := [16]) (by kernel_rfl) (by simp) ?_
  refine AllReadyH.cons rfl (fun K hK => ?_) AllReadyH.nil
  simp only [List.getElem_toArray, List.getElem_cons_zero, List.getElem_cons_succ]
  obtain ⟨cs, hcs⟩ : ∃ cs : Array Value, cs = abC ⟨1, priceF 5 1 0, true, 1, .node 10 0 1 2 []⟩ (evC 10 0 1 2 none 0 0) ++ abC ⟨1, priceF 5 1 0, true, 1, .node 12 0 0 2 []⟩ (evC 12 0 0 2 none 0 0) ++ abC ⟨1, priceF 5 1 0, true, 0, .node 3 1 0 1 []⟩ (evC 3 1 0 1 none 0 0) ++ abC ⟨1, priceF 5 1 0, true, 3, .node 1 1 0 2 []⟩ (evC 1 1 0 2 none 0 0) ++ abC ⟨1, priceF 5 1 0, true, 1, .node 13 0 0 2 []⟩ (evC 13 0 0 2 none 0 0) := ⟨_, rfl⟩
  have hs70 : cs.size = 70 := by rw [hcs]; simp only [Array.size_append, abE_size]
  have h1c : cs.all (·.oneCell') = true := by rw [hcs]; simp only [Array.all_append, abE_one, Bool.and_self]
  refine wp_store_row 113 (.tmp 2) (.tmp 49) rfl w.heap.size cs rfl (by rw [hcs]; rfl) 113 zero70 hacc.z (by rw [hs70]; exact size70) (by rw [hs70]; rfl) h1c ?_
  refine hK.out _ _ ⟨below_setRow hacc.b _ _ (Nat.le_refl _), hHeld.p.farRow hne _⟩ (fun _ => ?_)
  clear hK K
  try simp only [Act.put, List.setIfInBounds_toArray, List.set_cons_zero, List.set_cons_succ]
  refine wpAnyH_done (by kernel_rfl) ?_ _
  rw [hcs]
  go_wp2_with fail
  refine five_end (p := 2) (by kernel_rfl) rfl rfl hacc ?_ ?_ ?_ ?_ ?_
  · exact flatSp _ _ _ _ _ _ _ _ ⟨by decide, by decide⟩ (by rw [price_any]; exact wide_one) ⟨by decide, by decide⟩ ⟨by decide, by decide⟩ ⟨by decide, by decide⟩ ⟨by decide, by decide⟩ ⟨by decide, by decide⟩ (by rw [price_any]; rfl)
  · exact flatSp _ _ _ _ _ _ _ _ ⟨by decide, by decide⟩ (by rw [price_any]; exact wide_one) ⟨by decide, by decide⟩ ⟨by decide, by decide⟩ ⟨by decide, by decide⟩ ⟨by decide, by decide⟩ ⟨by decide, by decide⟩ (by rw [price_any]; rfl)
  · exact flatSp _ _ _ _ _ _ _ _ ⟨by decide, by decide⟩ (by rw [price_any]; exact wide_one) ⟨by decide, by decide⟩ ⟨by decide, by decide⟩ ⟨by decide, by decide⟩ ⟨by decide, by decide⟩ ⟨by decide, by decide⟩ (by rw [price_any]; rfl)
  · exact flatSp _ _ _ _ _ _ _ _ ⟨by decide, by decide⟩ (by rw [price_any]; exact wide_one) ⟨by decide, by decide⟩ ⟨by decide, by decide⟩ ⟨by decide, by decide⟩ ⟨by decide, by decide⟩ ⟨by decide, by decide⟩ (by rw [price_any]; rfl)
  · exact flatSp _ _ _ _ _ _ _ _ ⟨by decide, by decide⟩ (by rw [price_any]; exact wide_one) ⟨by decide, by decide⟩ ⟨by decide, by decide⟩ ⟨by decide, by decide⟩ ⟨by decide, by decide⟩ ⟨by decide, by decide⟩ (by rw [price_any]; rfl)
/-- Any row of relics' abilities. -/
theorem relics_any (k : Nat) (w : World) (hk : k < 4) : Calls Tryd.prog 71 #[.int .i64 (k : Int)] w (FiveQ (relicT k) w) := by
  match k, hk with
  | 0, _ => exact relics_0 w
  | 1, _ => exact relics_1 w
  | 2, _ => exact relics_2 w
  | 3, _ => exact relics_3 w
theorem spells_5 (w : World) : Calls Tryd.prog 69 #[.int .i64 5] w (FiveQ (spellT 5) w) := by
  go_enter Tryd.func69, Tryd.ntmps69
  go_upto_region 1 with fail
  obtain ⟨w0, hw⟩ : ∃ W, W = w.alloc (.cells zero70 113) := ⟨_, rfl⟩
  have hacc : EAcc w zero70 113 w0 [] := by rw [hw]; exact ⟨(Below.refl _ _).alloc (Nat.le_refl _) _, heap_alloc_new _ _, by simp⟩
  rw [← hw]
  clear hw
  go_wp2_with fail
  refine (mk_effect _ _ _ _ _).mono ?_
  rintro e w1 ⟨rfl, hb1⟩
  go_wp2_with fail
  refine (mk_effect _ _ _ _ _).mono ?_
  rintro e w2 ⟨rfl, hb2⟩
  rw [ev5, ev5]
  replace hacc := (hacc.step hb1).step hb2
  go_upto_region 13 with fail
  obtain ⟨w3, hw⟩ : ∃ W, W = (w2.alloc (.cells #[.int .i64 2, .int .i64 8, .int .i64 0, .int .i64 0, .slice none 0 0, .int .i64 4, .int .i64 1, .int .i64 0, .int .i64 0, .slice none 0 0] 65)).alloc (.cells #[.int .i64 22, .int .i64 0, .int .i64 10, .int .i64 0, .slice (some ⟨w2.heap.size, 0, none⟩) 2 2] 65) := ⟨_, rfl⟩
  have hb3 : Below w2.heap.size w2 w3 := by rw [hw]; exact boxes2
  have hP : EvAt w3 (w2.heap.size + 1) (evC 22 0 10 0 (some ⟨w2.heap.size, 0, none⟩) 2 2) := by rw [hw]; exact new_1 _ _ _
  have hG : EvAt w3 w2.heap.size (evC 2 8 0 0 none 0 0 ++ evC 4 1 0 0 none 0 0) := by rw [hw]; exact (Below.heap_alloc _ _ _ (by simp)).trans (heap_alloc_new _ _)
  have hs3 : w2.heap.size < w3.heap.size := hG.lt
  replace hacc := hacc.snoc hb3 (twoE 22 0 10 2 8 0 0 4 1 0 0 hG ⟨Nat.le_refl _, hs3⟩ ⟨by decide, by decide⟩ ⟨by decide, by decide⟩ ⟨by decide, by decide⟩ ⟨by decide, by decide⟩ ⟨by decide, by decide⟩ ⟨by decide, by decide⟩ ⟨by decide, by decide⟩ ⟨by decide, by decide⟩ ⟨by decide, by decide⟩ ⟨by decide, by decide⟩ ⟨by decide, by decide⟩)
  rw [← hw]
  clear hw hG hs3 hb1 hb2 hb3
  go_wp2_with (first
    | (go_at_call 64; refine (mk_effect _ _ _ _ _).mono ?_; rintro e w' ⟨rfl, hb'⟩; replace hacc := hacc.step hb'; clear hb')
    | (go_at_call 75; refine (mk_spell _ _ _ _ _ _ _ _ _).mono ?_; rintro e w' ⟨rfl, hb'⟩; replace hacc := hacc.step hb'; clear hb')
    | (go_at_call 63; refine (mk_at _ _ _ _ _ _ _ _ _).mono ?_; rintro e w' ⟨rfl, hb'⟩; replace hacc := hacc.step hb'; clear hb')
    | (go_at_call 78; refine (mk_active _ _ _ _ _ _ _ _ _ _ _).mono ?_; rintro e w' ⟨rfl, hb'⟩; replace hacc := hacc.step hb'; clear hb')
    | (go_at_call 68; refine (mk_price 0 _ _ _ (by decide) (by decide) (by decide) (by decide) (by decide)).mono ?_; rintro e w' ⟨rfl, hb'⟩; replace hacc := hacc.step hb'; clear hb')
    | (go_at_call 76; refine (mk_all _ _ _ _ _ ⟨by decide, by decide⟩ ⟨by decide, by decide⟩ ⟨by decide, by decide⟩ ⟨by decide, by decide⟩).mono ?_; rintro e w' ⟨A', c', rfl, hr', hb'⟩; replace hacc := hacc.snoc hb' hr'; clear hb' hr')
    | (go_at_call 77; refine (mk_seq _ _ _ _ _ _ _ _ _ ⟨by decide, by decide⟩ ⟨by decide, by decide⟩ ⟨by decide, by decide⟩ ⟨by decide, by decide⟩ ⟨by decide, by decide⟩ ⟨by decide, by decide⟩ ⟨by decide, by decide⟩ ⟨by decide, by decide⟩).mono ?_; rintro e w' ⟨A', c', rfl, hr', hb'⟩; replace hacc := hacc.snoc hb' hr'; clear hb' hr')
    | (refine wpList_load_row rfl 65 (.tmp 3) rfl (w2.heap.size + 1) rfl 65 _ (0, 0) _ hP Tryd.underlying65 rfl size5 ?_)
    | (refine wpList_build_five rfl rfl rfl rfl rfl rfl rfl (abE_size _ _ _ _ _ _ _ _) (abE_size _ _ _ _ _ _ _ _) (abE_size _ _ _ _ _ _ _ _) (abE_size _ _ _ _ _ _ _ _) (abE_size _ _ _ _ _ _ _ _) ?_)
    | (refine wpList_store_five rfl rfl rfl rfl hacc.z (abE_size _ _ _ _ _ _ _ _) (abE_size _ _ _ _ _ _ _ _) (abE_size _ _ _ _ _ _ _ _) (abE_size _ _ _ _ _ _ _ _) (abE_size _ _ _ _ _ _ _ _)
        (abE_one _ _ _ _ _ _ _ _) (abE_one _ _ _ _ _ _ _ _) (abE_one _ _ _ _ _ _ _ _) (abE_one _ _ _ _ _ _ _ _) (abE_one _ _ _ _ _ _ _ _) ?_))
  refine five_end (p := 2) (by kernel_rfl) rfl rfl hacc ?_ ?_ ?_ ?_ ?_
  · exact ab_reads _ _ _ _ _ _ ⟨by decide, by decide⟩ wide_no ⟨by decide, by decide⟩ (hacc.get 3 rfl) rfl
  · exact ab_reads _ _ _ _ _ _ ⟨by decide, by decide⟩ wide_no ⟨by decide, by decide⟩ (hacc.get 2 rfl) rfl
  · exact flatSp _ _ _ _ _ _ _ _ ⟨by decide, by decide⟩ wide_no ⟨by decide, by decide⟩ ⟨by decide, by decide⟩ ⟨by decide, by decide⟩ ⟨by decide, by decide⟩ ⟨by decide, by decide⟩ rfl
  · exact ab_reads _ _ _ _ _ _ ⟨by decide, by decide⟩ wide_no ⟨by decide, by decide⟩ (hacc.get 1 rfl) rfl
  · exact ab_reads _ _ _ _ _ _ ⟨by decide, by decide⟩ wide_no ⟨by decide, by decide⟩ (hacc.get 0 rfl) rfl
/-- Any row of spells. -/
theorem spells_any (k : Nat) (w : World) (hk : k < 6) : Calls Tryd.prog 69 #[.int .i64 (k : Int)] w (FiveQ (spellT k) w) := by
  match k, hk with
  | 0, _ => exact spells_0 w
  | 1, _ => exact spells_1 w
  | 2, _ => exact spells_2 w
  | 3, _ => exact spells_3 w
  | 4, _ => exact spells_4 w
  | 5, _ => exact spells_5 w
end Go.Proofs.YtplfblccaeligaaDoor
