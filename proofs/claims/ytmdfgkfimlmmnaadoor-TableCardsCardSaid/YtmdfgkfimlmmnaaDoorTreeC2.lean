/- Layer 6: contracts of effect's spans, bounds and whom an op may be about. -/
import Derived.Test.YtmdfgkfimlmmnaaDoorTreeFits
import Derived.Test.YtmdfgkfimlmmnaaDoorBitsCode
import Derived.RegionTactic
import Derived.ChangeAlike
namespace Go.Proofs.YtmdfgkfimlmmnaaDoor
open Go.RowKit Ex Bx
/-- A span, as a value. -/
def spV (a b : Int) : Value := .agg #[.int .i64 a, .int .i64 b]
def SpAt (w : World) (g : Nat) (a b : Int) : Prop := w.heap[g]? = some (.cells #[.int .i64 a, .int .i64 b] 128 (0, 0))
theorem SpAt.keep {w w' : World} {g : Nat} {a b : Int} (h : SpAt w g a b) (hb : Below w.heap.size w w') : SpAt w' g a b := (hb.block g (Array.getElem?_eq_some_iff.1 h).1).trans h
theorem SpAt.c0 {w : World} {g : Nat} {a b : Int} (h : SpAt w g a b) : w.cell? ⟨g, 0, none⟩ = some (.int .i64 a) := cell_of_row w g 0 _ _ (0, 0) h
theorem SpAt.c1 {w : World} {g : Nat} {a b : Int} (h : SpAt w g a b) : w.cell? ⟨g, 1, none⟩ = some (.int .i64 b) := cell_of_row w g 1 _ _ (0, 0) h
theorem size2 : (Tryd.prog.info? 128).map (·.size) = some 2 := by kernel_rfl
set_option linter.unusedSimpArgs false in
set_option maxRecDepth 100000 in
theorem spanHas (a b n : Int) (w : World) : Calls Tryd.prog 98 #[spV a b, .int .i64 n] w fun e w' => e = .returned (.bool (decide (a ≤ n ∧ n ≤ b))) ∧ Below w.heap.size w w' := by
  unfold spV
  go_enter Tryd.func98, Tryd.ntmps98
  go_upto_region 1 with fail
  obtain ⟨w1, hw1⟩ : ∃ w1, w1 = w.alloc (.cells #[.int .i64 a, .int .i64 b] 128) := ⟨_, rfl⟩
  have hS : SpAt w1 w.heap.size a b := by rw [hw1]; exact heap_alloc_new _ _
  have hb1 : Below w.heap.size w w1 := by rw [hw1]; exact (Below.refl _ _).alloc (Nat.le_refl _) _
  rw [← hw1]
  clear hw1
  have c0 := hS.c0
  have c1 := hS.c1
  by_cases h : a ≤ n
  · have d0 : decide (a ≤ n) = true := by simpa using h
    have HD := Lib.hid (show decide (a ≤ n ∧ n ≤ b) = decide (n ≤ b) by simp [h])
    clear h hS
    go_wp2_with fail
    go_ret
    exact ⟨by rw [HD.out]; rfl, hb1⟩
  · have d0 : decide (a ≤ n) = false := by simpa using h
    have HD := Lib.hid (show decide (a ≤ n ∧ n ≤ b) = false by simp [h])
    clear h hS
    go_wp2_with fail
    go_ret
    exact ⟨by rw [HD.out]; rfl, hb1⟩
namespace Ex
def nLow (op : Int) : Int := if op = 10 ∨ op = 24 then -99 else 0
def mLow (op : Int) : Int := if op = 10 ∨ op = 24 then -99 else mLeast op
theorem ranges_spans (op n m who : Int) : RangesC op n m who ↔ ((nLow op ≤ n ∧ n ≤ nMost op) ∧ (mLow op ≤ m ∧ m ≤ mMost op) ∧ (0 ≤ who ∧ who ≤ 4)) := by
  unfold RangesC nLow mLow nMost mLeast mMost
  repeat' split
  all_goals omega
end Ex
/-- Two whole arrays of cells as results. -/
theorem results_cells_both {P : Program} {fn : Func} {p q : Tmp} {ty : TypeId} (h : fn.results = #[.cell p ty, .cell q ty]) (tmps : Array Value) (w : World) (g g' : Nat) (cs cs' : Array Value) (fr fr' : Nat × Nat) (d : TypeDesc)
    (hp : tmps.getD p undef = .pointer (some ⟨g, 0, none⟩)) (hq : tmps.getD q undef = .pointer (some ⟨g', 0, none⟩)) (hg : w.heap[g]? = some (.cells cs ty fr)) (hg' : w.heap[g']? = some (.cells cs' ty fr'))
    (hu : P.underlying ty = some d) (hd : (match d with | .struct _ | .array _ _ => true | _ => false) = true) (hi : (P.info? ty).map (·.size) = some cs.size) (hi' : (P.info? ty).map (·.size) = some cs'.size) :
    (results fn tmps).run P w = .ok (.tuple #[.agg cs, .agg cs']) w := by
  have hp' : tmps[p]?.getD undef = .pointer (some ⟨g, 0, none⟩) := by simpa using hp
  have hq' : tmps[q]?.getD undef = .pointer (some ⟨g', 0, none⟩) := by simpa using hq
  simp [results, h, hp', hq', asAddr, run_loadVar_row w g ty ty cs fr d hg hu hd hi, run_loadVar_row w g' ty ty cs' fr' d hg' hu hd hi']
theorem two_first (w : World) (o o' : Array Value) : ((w.alloc (.cells o 128)).alloc (.cells o' 128)).drew.heap[w.heap.size]? = some (.cells o 128 (0, 0)) := by
  have h : (w.alloc (.cells o 128)).heap[w.heap.size]? = some (.cells o 128 (0, 0)) := heap_alloc_new _ _
  exact (((Below.refl (w.alloc (.cells o 128)).heap.size _).alloc (Nat.le_refl _) _).block _ (by simp)).trans h
theorem two_second (w : World) (o o' : Array Value) : ((w.alloc (.cells o 128)).alloc (.cells o' 128)).drew.heap[w.heap.size + 1]? = some (.cells o' 128 (0, 0)) := by
  have h := heap_alloc_new (w.alloc (.cells o 128)) (.cells o' 128)
  rw [show (w.alloc (.cells o 128)).heap.size = w.heap.size + 1 by simp] at h
  exact h
set_option linter.unusedSimpArgs false in
set_option maxRecDepth 100000 in
set_option maxHeartbeats 1000000 in
theorem bounds_any (op : Int) (w : World) : Calls Tryd.prog 97 #[.int .i64 op] w fun e w' => e = .returned (.tuple #[spV (nLow op) (nMost op), spV (mLow op) (mMost op)]) ∧ Below w.heap.size w w' := by
  by_cases hop : op = 10 ∨ op = 24 ∨ op = 20 ∨ op = 22 ∨ op = 15 ∨ op = 23 ∨ op = 25 ∨ op = 14
  · rcases hop with rfl | rfl | rfl | rfl | rfl | rfl | rfl | rfl
    all_goals go_enter Tryd.func97, Tryd.ntmps97
    all_goals go_wp2_with fail
    all_goals go_region
    all_goals go_wp2
    · skip
      refine bodyPost_ret (v := .tuple #[spV (-99) 99, spV (-99) 99]) ?_ rfl ⟨?_, ?_⟩
      · exact results_cells_both (ty := 128) (p := 2) (q := 3) (by kernel_rfl) _ _ w.heap.size (w.heap.size + 1) _ _ (0, 0) (0, 0) _ rfl rfl (two_first _ _ _) (two_second _ _ _) Tryd.underlying128 rfl size2 size2
      · rfl
      · exact (((Below.refl _ _).alloc (Nat.le_refl _) _).alloc (by simp) _).drew
    · skip
      refine bodyPost_ret (v := .tuple #[spV (-99) 99, spV (-99) 99]) ?_ rfl ⟨?_, ?_⟩
      · exact results_cells_both (ty := 128) (p := 2) (q := 3) (by kernel_rfl) _ _ w.heap.size (w.heap.size + 1) _ _ (0, 0) (0, 0) _ rfl rfl (two_first _ _ _) (two_second _ _ _) Tryd.underlying128 rfl size2 size2
      · rfl
      · exact (((Below.refl _ _).alloc (Nat.le_refl _) _).alloc (by simp) _).drew
    · skip
      refine bodyPost_ret (v := .tuple #[spV 0 3, spV 0 99]) ?_ rfl ⟨?_, ?_⟩
      · exact results_cells_both (ty := 128) (p := 2) (q := 3) (by kernel_rfl) _ _ w.heap.size (w.heap.size + 1) _ _ (0, 0) (0, 0) _ rfl rfl (two_first _ _ _) (two_second _ _ _) Tryd.underlying128 rfl size2 size2
      · rfl
      · exact (((Below.refl _ _).alloc (Nat.le_refl _) _).alloc (by simp) _).drew
    · skip
      refine bodyPost_ret (v := .tuple #[spV 0 2, spV 0 99]) ?_ rfl ⟨?_, ?_⟩
      · exact results_cells_both (ty := 128) (p := 2) (q := 3) (by kernel_rfl) _ _ w.heap.size (w.heap.size + 1) _ _ (0, 0) (0, 0) _ rfl rfl (two_first _ _ _) (two_second _ _ _) Tryd.underlying128 rfl size2 size2
      · rfl
      · exact (((Below.refl _ _).alloc (Nat.le_refl _) _).alloc (by simp) _).drew
    · skip
      refine bodyPost_ret (v := .tuple #[spV 0 99, spV 0 5]) ?_ rfl ⟨?_, ?_⟩
      · exact results_cells_both (ty := 128) (p := 2) (q := 3) (by kernel_rfl) _ _ w.heap.size (w.heap.size + 1) _ _ (0, 0) (0, 0) _ rfl rfl (two_first _ _ _) (two_second _ _ _) Tryd.underlying128 rfl size2 size2
      · rfl
      · exact (((Below.refl _ _).alloc (Nat.le_refl _) _).alloc (by simp) _).drew
    · skip
      refine bodyPost_ret (v := .tuple #[spV 0 255, spV 0 99]) ?_ rfl ⟨?_, ?_⟩
      · exact results_cells_both (ty := 128) (p := 2) (q := 3) (by kernel_rfl) _ _ w.heap.size (w.heap.size + 1) _ _ (0, 0) (0, 0) _ rfl rfl (two_first _ _ _) (two_second _ _ _) Tryd.underlying128 rfl size2 size2
      · rfl
      · exact (((Below.refl _ _).alloc (Nat.le_refl _) _).alloc (by simp) _).drew
    · skip
      refine bodyPost_ret (v := .tuple #[spV 0 255, spV 0 99]) ?_ rfl ⟨?_, ?_⟩
      · exact results_cells_both (ty := 128) (p := 2) (q := 3) (by kernel_rfl) _ _ w.heap.size (w.heap.size + 1) _ _ (0, 0) (0, 0) _ rfl rfl (two_first _ _ _) (two_second _ _ _) Tryd.underlying128 rfl size2 size2
      · rfl
      · exact (((Below.refl _ _).alloc (Nat.le_refl _) _).alloc (by simp) _).drew
    · skip
      refine bodyPost_ret (v := .tuple #[spV 0 99, spV 112 119]) ?_ rfl ⟨?_, ?_⟩
      · exact results_cells_both (ty := 128) (p := 2) (q := 3) (by kernel_rfl) _ _ w.heap.size (w.heap.size + 1) _ _ (0, 0) (0, 0) _ rfl rfl (two_first _ _ _) (two_second _ _ _) Tryd.underlying128 rfl size2 size2
      · rfl
      · exact (((Below.refl _ _).alloc (Nat.le_refl _) _).alloc (by simp) _).drew
  · have n1 : op ≠ 10 := fun h => hop (by omega)
    have n2 : op ≠ 24 := fun h => hop (by omega)
    have n3 : op ≠ 20 := fun h => hop (by omega)
    have n4 : op ≠ 22 := fun h => hop (by omega)
    have n5 : op ≠ 23 := fun h => hop (by omega)
    have n6 : op ≠ 25 := fun h => hop (by omega)
    have n7 : op ≠ 15 := fun h => hop (by omega)
    have n8 : op ≠ 14 := fun h => hop (by omega)
    have e1 : (op == 10) = false := by simpa using n1
    have e2 : (op == 24) = false := by simpa using n2
    have e3 : (op == 20) = false := by simpa using n3
    have e4 : (op == 22) = false := by simpa using n4
    have e5 : (op == 23) = false := by simpa using n5
    have e6 : (op == 25) = false := by simpa using n6
    have e7 : (op == 15) = false := by simpa using n7
    have e8 : (op == 14) = false := by simpa using n8
    have HN := Lib.hid (show spV (nLow op) (nMost op) = spV 0 99 by simp [nLow, nMost, n1, n2, n3, n4, n5, n6])
    have HM := Lib.hid (show spV (mLow op) (mMost op) = spV 0 99 by simp [mLow, mMost, mLeast, n1, n2, n7, n8])
    clear hop n1 n2 n3 n4 n5 n6 n7 n8
    go_enter Tryd.func97, Tryd.ntmps97
    go_wp2_with fail
    go_region
    go_wp2
    refine bodyPost_ret (v := .tuple #[spV 0 99, spV 0 99]) ?_ rfl ⟨?_, ?_⟩
    · exact results_cells_both (ty := 128) (p := 2) (q := 3) (by kernel_rfl) _ _ w.heap.size (w.heap.size + 1) _ _ (0, 0) (0, 0) _ rfl rfl (two_first _ _ _) (two_second _ _ _) Tryd.underlying128 rfl size2 size2
    · rw [HN.out, HM.out]
    · exact (((Below.refl _ _).alloc (Nat.le_refl _) _).alloc (by simp) _).drew
namespace Ex
def whomF (op : Int) : Nat := if op = 0 ∨ (20 ≤ op ∧ op ≤ 22) then 1 else if op = 1 then 19 else if op = 9 then 0 else if ObjC op then 8 else 19
def targetsF (op : Int) : Nat := if op = 0 ∨ (20 ≤ op ∧ op ≤ 22) then 0 else if op = 1 then 14 else if op = 9 then 16 else if ObjC op then 34 else 4
theorem obj_bits : ∀ k : Nat, k < 64 → (58736064 : Nat).testBit k = decide (ObjC (k : Int)) := by decide +kernel
theorem obj_mem (op : Int) : (memB op && (58736064 : Nat).testBit op.toNat) = decide (ObjC op) := by
  by_cases h : memB op = true
  · obtain ⟨h1, h2⟩ := memB_true h
    obtain ⟨k, rfl⟩ := Int.eq_ofNat_of_zero_le h1
    rw [h, Bool.true_and, Int.toNat_natCast]
    exact obj_bits k (by omega)
  · have h1 : memB op = false := by simpa using h
    rw [h1, Bool.false_and]
    have := memB_false h1
    symm
    rw [decide_eq_false_iff_not]
    unfold ObjC
    omega
end Ex
set_option linter.unusedSimpArgs false in
set_option maxRecDepth 100000 in
theorem about_any (op : Int) (w : World) : Calls Tryd.prog 99 #[.int .i64 op] w fun e w' => e = .returned (.tuple #[.int .u64 (whomF op : Nat), .int .u64 (targetsF op : Nat)]) ∧ w = w' := by
  by_cases h : op = 0 ∨ op = 20 ∨ op = 21 ∨ op = 22 ∨ op = 1 ∨ op = 9
  · rcases h with rfl | rfl | rfl | rfl | rfl | rfl
    all_goals go_enter Tryd.func99, Tryd.ntmps99
    all_goals go_wp2_with fail
    all_goals go_ret2
    all_goals exact ⟨by rfl, rfl⟩
  · have n0 : op ≠ 0 := fun e => h (by omega)
    have n1 : op ≠ 20 := fun e => h (by omega)
    have n2 : op ≠ 21 := fun e => h (by omega)
    have n3 : op ≠ 22 := fun e => h (by omega)
    have n4 : op ≠ 1 := fun e => h (by omega)
    have n5 : op ≠ 9 := fun e => h (by omega)
    have e0 : (op == 0) = false := by simpa using n0
    have e1 : (op == 20) = false := by simpa using n1
    have e2 : (op == 21) = false := by simpa using n2
    have e3 : (op == 22) = false := by simpa using n3
    have e4 : (op == 1) = false := by simpa using n4
    have e5 : (op == 9) = false := by simpa using n5
    have HW := Lib.hid (show whomF op = if ObjC op then 8 else 19 by unfold whomF; rw [if_neg (by omega), if_neg n4, if_neg n5])
    have HT := Lib.hid (show targetsF op = if ObjC op then 34 else 4 by unfold targetsF; rw [if_neg (by omega), if_neg n4, if_neg n5])
    have HM := Lib.hid (obj_mem op)
    clear h n0 n1 n2 n3 n4 n5
    go_enter Tryd.func99, Tryd.ntmps99
    go_wp2_with fail
    refine (has_is 58736064 (by decide) op w).mono ?_
    rintro e w' ⟨rfl, rfl⟩
    rw [HM.out]
    by_cases hO : ObjC op
    · rw [if_pos hO] at HW HT
      have d : decide (ObjC op) = true := by simpa using hO
      rw [d]
      clear hO d
      go_wp2_with fail
      go_ret2
      exact ⟨by rw [HW.out, HT.out]; rfl, rfl⟩
    · rw [if_neg hO] at HW HT
      have d : decide (ObjC op) = false := by simpa using hO
      rw [d]
      clear hO d
      go_wp2_with fail
      go_ret2
      exact ⟨by rw [HW.out, HT.out]; rfl, rfl⟩
end Go.Proofs.YtmdfgkfimlmmnaaDoor
