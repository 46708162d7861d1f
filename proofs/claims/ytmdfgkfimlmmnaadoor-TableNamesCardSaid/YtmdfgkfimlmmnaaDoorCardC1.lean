/- Layer 7: contracts of card's small tests: what an ability's tap, target, effect may be, what a card's numbers and speed may be. -/
import Derived.Test.YtmdfgkfimlmmnaaDoorCardChk
namespace Go.Proofs.YtmdfgkfimlmmnaaDoor
open Go.RowKit Ex Mx
set_option linter.unusedSimpArgs false in
set_option maxRecDepth 100000 in
theorem tapFits_any (d : Nat) (a : AbT) (xs : Array Value) (w : World) (_ : Reads w.heap.size w d xs a.do_) : Calls Tryd.prog 56 #[.agg (abC a xs)] w fun e w' => e = .returned (.bool (decide (TapC a))) ∧ Below w.heap.size w w' := by
  obtain ⟨q, hq⟩ : ∃ q, q = decide (TapC a) := ⟨_, rfl⟩
  rw [← hq]
  go_enter Tryd.func56, Tryd.ntmps56
  go_upto_region 1 with fail
  obtain ⟨w1, hw1⟩ : ∃ w1, w1 = w.alloc (.cells (abC a xs) 48) := ⟨_, rfl⟩
  have hE : AbAt w1 w.heap.size (abC a xs) := by rw [hw1]; exact AbAt.new _ _
  have hb1 : Below w.heap.size w w1 := by rw [hw1]; exact (Below.refl _ _).alloc (Nat.le_refl _) _
  rw [← hw1]
  clear hw1
  have c0 : w1.cell? ⟨w.heap.size, 0, none⟩ = some (.int .i64 a.when_) := by rw [hE.cell]; exact ab_when
  have c7 : w1.cell? ⟨w.heap.size, 7, none⟩ = some (.bool a.tap) := by rw [hE.cell]; exact ab_tap
  have hdef : decide (TapC a) = decide ((a.when_ = 6 → a.tap = true) ∧ (a.when_ ≠ 6 → a.when_ ≠ 1 → a.tap = false)) := rfl
  obtain ⟨x, hx⟩ : ∃ x, x = a.when_ := ⟨_, rfl⟩
  obtain ⟨F, hF⟩ : ∃ x, x = a.tap := ⟨_, rfl⟩
  rw [← hx] at c0 hdef
  rw [← hF] at c7 hdef
  rw [← hq] at hdef
  clear hx hF hq hE
  by_cases h1 : x = 1
  · have e1 : (x == 1) = true := by simpa using h1
    have HQ := Lib.hid (show q = true by rw [hdef, h1]; simp)
    clear h1 hdef
    go_wp2_with fail
    all_goals go_ret
    all_goals exact ⟨by rw [HQ.out]; rfl, hb1⟩
  · have e1 : (x == 1) = false := by simpa using h1
    by_cases h6 : x = 6
    · have e6 : (x == 6) = true := by simpa using h6
      have HQ := Lib.hid (show q = F by rw [hdef, h6]; cases F <;> simp)
      clear h1 h6 hdef
      cases F
      · skip
        go_wp2_with fail
        all_goals go_ret
        all_goals exact ⟨by rw [HQ.out]; rfl, hb1⟩
      · skip
        go_wp2_with fail
        all_goals go_ret
        all_goals exact ⟨by rw [HQ.out]; rfl, hb1⟩
    · have e6 : (x == 6) = false := by simpa using h6
      have HQ := Lib.hid (show q = !F by rw [hdef]; cases F <;> simp [h1, h6])
      clear h1 h6 hdef
      cases F
      · skip
        go_wp2_with fail
        all_goals go_ret
        all_goals exact ⟨by rw [HQ.out]; rfl, hb1⟩
      · skip
        go_wp2_with fail
        all_goals go_ret
        all_goals exact ⟨by rw [HQ.out]; rfl, hb1⟩
set_option linter.unusedSimpArgs false in
set_option maxRecDepth 100000 in
theorem targetFits_any (d : Nat) (a : AbT) (xs : Array Value) (w : World) (_ : Reads w.heap.size w d xs a.do_) : Calls Tryd.prog 57 #[.agg (abC a xs)] w fun e w' => e = .returned (.bool (decide (TargC a))) ∧ Below w.heap.size w w' := by
  obtain ⟨q, hq⟩ : ∃ q, q = decide (TargC a) := ⟨_, rfl⟩
  rw [← hq]
  go_enter Tryd.func57, Tryd.ntmps57
  go_upto_region 1 with fail
  obtain ⟨w1, hw1⟩ : ∃ w1, w1 = w.alloc (.cells (abC a xs) 48) := ⟨_, rfl⟩
  have hE : AbAt w1 w.heap.size (abC a xs) := by rw [hw1]; exact AbAt.new _ _
  have hb1 : Below w.heap.size w w1 := by rw [hw1]; exact (Below.refl _ _).alloc (Nat.le_refl _) _
  rw [← hw1]
  clear hw1
  have c0 : w1.cell? ⟨w.heap.size, 0, none⟩ = some (.int .i64 a.when_) := by rw [hE.cell]; exact ab_when
  have c8 : w1.cell? ⟨w.heap.size, 8, none⟩ = some (.int .i64 a.target) := by rw [hE.cell]; exact ab_target
  have hdef : decide (TargC a) = decide ((0 ≤ a.target ∧ a.target ≤ 5) ∧ (a.target = 0 ∨ a.when_ = 0 ∨ a.when_ = 1)) := rfl
  obtain ⟨x, hx⟩ : ∃ x, x = a.when_ := ⟨_, rfl⟩
  obtain ⟨g, hg⟩ : ∃ x, x = a.target := ⟨_, rfl⟩
  rw [← hx] at c0 hdef
  rw [← hg] at c8 hdef
  rw [← hq] at hdef
  clear hx hg hq hE
  by_cases h1 : x = 0 ∨ x = 1
  · have hdef2 : q = decide (0 ≤ g ∧ g < 6) := by rw [hdef]; exact decide_eq_decide.2 (by omega)
    have e1 : (x == 0) = true ∨ ((x == 0) = false ∧ (x == 1) = true) := by
      rcases h1 with rfl | rfl
      · exact .inl rfl
      · exact .inr ⟨rfl, rfl⟩
    by_cases h2 : 0 ≤ g
    · have e2 : decide (0 ≤ g) = true := by simpa using h2
      have HQ := Lib.hid (show q = decide (g < 6) by rw [hdef2]; exact decide_eq_decide.2 (by omega))
      clear h1 h2 hdef hdef2
      rcases e1 with e1 | ⟨e0, e1⟩
      · skip
        go_wp2_with fail
        all_goals go_ret
        all_goals exact ⟨by rw [HQ.out]; rfl, hb1⟩
      · skip
        go_wp2_with fail
        all_goals go_ret
        all_goals exact ⟨by rw [HQ.out]; rfl, hb1⟩
    · have e2 : decide (0 ≤ g) = false := by simpa using h2
      have HQ := Lib.hid (show q = false by rw [hdef2]; exact decide_eq_false (by omega))
      clear h1 h2 hdef hdef2
      rcases e1 with e1 | ⟨e0, e1⟩
      · skip
        go_wp2_with fail
        all_goals go_ret
        all_goals exact ⟨by rw [HQ.out]; rfl, hb1⟩
      · skip
        go_wp2_with fail
        all_goals go_ret
        all_goals exact ⟨by rw [HQ.out]; rfl, hb1⟩
  · have e0 : (x == 0) = false := by simp; omega
    have e1 : (x == 1) = false := by simp; omega
    have HQ := Lib.hid (show q = (g == 0) by rw [hdef, Bool.eq_iff_iff, decide_eq_true_iff, beq_iff_eq]; omega)
    clear h1 hdef
    go_wp2_with fail
    all_goals go_ret
    all_goals exact ⟨by rw [HQ.out]; rfl, hb1⟩
set_option linter.unusedSimpArgs false in
set_option maxRecDepth 100000 in
theorem lasts_any (op : Int) (w : World) : Calls Tryd.prog 70 #[.int .i64 op] w fun e w' => e = .returned (.bool (decide (op = 10 ∨ op = 23 ∨ op = 24 ∨ op = 25))) ∧ w = w' := by
  obtain ⟨q, hq⟩ : ∃ q, q = decide (op = 10 ∨ op = 23 ∨ op = 24 ∨ op = 25) := ⟨_, rfl⟩
  rw [← hq]
  go_enter Tryd.func70, Tryd.ntmps70
  by_cases h1 : op = 10
  · have e1 : (op == 10) = true := by simpa using h1
    have HQ := Lib.hid (show q = true by rw [hq]; simp [h1])
    clear h1 hq
    go_wp2_with fail
    go_ret
    exact ⟨by rw [HQ.out]; rfl, rfl⟩
  have e1 : (op == 10) = false := by simpa using h1
  by_cases h2 : op = 23
  · have e2 : (op == 23) = true := by simpa using h2
    have HQ := Lib.hid (show q = true by rw [hq]; simp [h2])
    clear h1 h2 hq
    go_wp2_with fail
    go_ret
    exact ⟨by rw [HQ.out]; rfl, rfl⟩
  have e2 : (op == 23) = false := by simpa using h2
  by_cases h3 : op = 24
  · have e3 : (op == 24) = true := by simpa using h3
    have HQ := Lib.hid (show q = true by rw [hq]; simp [h3])
    clear h1 h2 h3 hq
    go_wp2_with fail
    go_ret
    exact ⟨by rw [HQ.out]; rfl, rfl⟩
  have e3 : (op == 24) = false := by simpa using h3
  have HQ := Lib.hid (show q = (op == 25) by rw [hq, Bool.eq_iff_iff, decide_eq_true_iff, beq_iff_eq]; omega)
  clear h1 h2 h3 hq
  go_wp2_with fail
  go_ret
  exact ⟨by rw [HQ.out]; rfl, rfl⟩
set_option linter.unusedSimpArgs false in
set_option maxRecDepth 100000 in
theorem doesFit_any (d : Nat) (a : AbT) (xs : Array Value) (w : World) (hr : Reads w.heap.size w d xs a.do_) (hok : chkTop a.do_ a.target = 0) : Calls Tryd.prog 59 #[.agg (abC a xs)] w fun e w' => e = .returned (.bool (decide (MtC a ∧ StC a))) ∧ Below w.heap.size w w' := by
  have hall := chk_all hok
  obtain ⟨wh, f, tap, tg, t⟩ := a
  cases d with
  | zero => exact absurd hr id
  | succ d =>
  obtain ⟨op, n, m, who, l⟩ := t
  obtain ⟨_, _, _, _, A, cc, hxs, hl, hc, hx⟩ := hr
  have hX : ∀ x, l = [x] → ∃ b o ys, A = some ⟨b, o, none⟩ ∧ b < w.heap.size ∧ w.rangeAt b o ys.toList ∧ Reads w.heap.size w d ys x := fun x e => by
    obtain ⟨b, o, ys, h1, h2, h3, h4⟩ := hx 0 x (by rw [e]; rfl)
    exact ⟨b, o, ys, h1, h2, by simpa using h3, h4⟩
  have HX := Lib.hid hX
  have HXs := Lib.hid hxs
  clear hX hx hxs hok
  obtain ⟨q, hq⟩ : ∃ q, q = decide (MtC ⟨wh, f, tap, tg, .node op n m who l⟩ ∧ StC ⟨wh, f, tap, tg, .node op n m who l⟩) := ⟨_, rfl⟩
  rw [← hq]
  go_enter Tryd.func59, Tryd.ntmps59
  go_upto_region 1 with fail
  obtain ⟨w1, hw1⟩ : ∃ w1, w1 = w.alloc (.cells (abC ⟨wh, f, tap, tg, .node op n m who l⟩ xs) 48) := ⟨_, rfl⟩
  have hE : AbAt w1 w.heap.size (abC ⟨wh, f, tap, tg, .node op n m who l⟩ xs) := by rw [hw1]; exact AbAt.new _ _
  have hb1 : Below w.heap.size w w1 := by rw [hw1]; exact (Below.refl _ _).alloc (Nat.le_refl _) _
  rw [← hw1]
  clear hw1
  have c0 : w1.cell? ⟨w.heap.size, 0, none⟩ = some (.int .i64 wh) := by rw [hE.cell]; exact ab_when
  have c9 : w1.cell? ⟨w.heap.size, 9, none⟩ = some (.int .i64 op) := by rw [hE.cell]; exact (ab_op 0).trans (by rw [HXs.out]; rfl)
  have c12 : w1.cell? ⟨w.heap.size, 12, none⟩ = some (.int .i64 who) := by rw [hE.cell]; exact (ab_op 3).trans (by rw [HXs.out]; rfl)
  have c13 : w1.cell? ⟨w.heap.size, 13, none⟩ = some (.slice A l.length cc) := by rw [hE.cell]; exact (ab_op 4).trans (by rw [HXs.out]; rfl)
  have hdef : decide (MtC ⟨wh, f, tap, tg, .node op n m who l⟩ ∧ StC ⟨wh, f, tap, tg, .node op n m who l⟩) = decide ((wh = 6 → op = 15 ∧ who = 0) ∧ (wh = 5 → op = 20 ∧ (headOp l = 10 ∨ headOp l = 23 ∨ headOp l = 24 ∨ headOp l = 25))) := rfl
  have hall : op = 20 → ∃ x, l = [x] := hall
  rw [← hq] at hdef
  clear hq hE
  by_cases h6 : wh = 6
  · have e6 : (wh == 6) = true := by simpa using h6
    by_cases h15 : op = 15
    · have e15 : (op == 15) = true := by simpa using h15
      have HQ := Lib.hid (show q = (who == 0) by rw [hdef, Bool.eq_iff_iff, decide_eq_true_iff, beq_iff_eq]; omega)
      clear h6 h15 hdef hall
      go_wp2_with fail
      all_goals go_ret
      all_goals exact ⟨by rw [HQ.out]; rfl, hb1⟩
    · have e15 : (op == 15) = false := by simpa using h15
      have HQ := Lib.hid (show q = false by rw [hdef]; exact decide_eq_false (fun h => h15 (h.1 h6).1))
      clear h6 h15 hdef hall
      go_wp2_with fail
      all_goals go_ret
      all_goals exact ⟨by rw [HQ.out]; rfl, hb1⟩
  · have e6 : (wh == 6) = false := by simpa using h6
    by_cases h5 : wh = 5
    · have e5 : (wh == 5) = true := by simpa using h5
      by_cases h20 : op = 20
      · have e20 : (op == 20) = true := by simpa using h20
        obtain ⟨x, rfl⟩ := hall h20
        have hcall := lasts_any x.op w1
        obtain ⟨y, hy⟩ : ∃ y, y = decide (x.op = 10 ∨ x.op = 23 ∨ x.op = 24 ∨ x.op = 25) := ⟨_, rfl⟩
        rw [← hy] at hcall
        have HQ := Lib.hid (show q = y by rw [hdef, hy]; exact decide_eq_decide.2 (by simp [headOp, h5, h20]))
        obtain ⟨b, o, ys, rfl, hbb, hrg, hrx⟩ := HX.out x rfl
        obtain ⟨Ax, cx, hye, _, _⟩ := hrx.shape
        have cx0 : w1.cell? ⟨b, o, none⟩ = some (.int .i64 x.op) := rangeAt_below hb1 hbb hrg 0 _ (by rw [hye]; rfl)
        clear h6 h5 h20 hdef hall hrg hrx hye hy
        go_wp2_with fail
        refine hcall.mono ?_
        rintro e w2 ⟨rfl, rfl⟩
        go_wp2_with fail
        all_goals go_ret
        all_goals exact ⟨by rw [HQ.out]; rfl, hb1⟩
      · have e20 : (op == 20) = false := by simpa using h20
        have HQ := Lib.hid (show q = false by rw [hdef]; exact decide_eq_false (fun h => h20 (h.2 h5).1))
        clear h6 h5 h20 hdef hall
        go_wp2_with fail
        all_goals go_ret
        all_goals exact ⟨by rw [HQ.out]; rfl, hb1⟩
    · have e5 : (wh == 5) = false := by simpa using h5
      have HQ := Lib.hid (show q = true by rw [hdef]; exact decide_eq_true ⟨fun h => absurd h h6, fun h => absurd h h5⟩)
      clear h6 h5 hdef hall
      go_wp2_with fail
      all_goals go_ret
      all_goals exact ⟨by rw [HQ.out]; rfl, hb1⟩
set_option linter.unusedSimpArgs false in
set_option maxRecDepth 100000 in
theorem speedFits_any (d : Nat) (c : CardT) (cs : Array Value) (w : World) (hr : ReadsC w.heap.size w d cs c) : Calls Tryd.prog 33 #[.agg cs] w fun e w' => e = .returned (.bool (decide (c.fast = true → c.kind = 2 ∨ c.kind = 1))) ∧ Below w.heap.size w w' := by
  obtain ⟨_, _, _, _, _, _, A, cc, hcs, hl, hc, hx⟩ := hr
  have HCs := Lib.hid hcs
  clear hcs hx
  obtain ⟨q, hq⟩ : ∃ q, q = decide (c.fast = true → c.kind = 2 ∨ c.kind = 1) := ⟨_, rfl⟩
  rw [← hq]
  go_enter Tryd.func33, Tryd.ntmps33
  go_upto_region 1 with fail
  obtain ⟨w1, hw1⟩ : ∃ w1, w1 = w.alloc (.cells cs 27) := ⟨_, rfl⟩
  have HE := Lib.hid (show CdAt w1 w.heap.size cs by rw [hw1]; exact CdAt.new _ _)
  have hb1 : Below w.heap.size w w1 := by rw [hw1]; exact (Below.refl _ _).alloc (Nat.le_refl _) _
  rw [← hw1]
  clear hw1
  have c0 : w1.cell? ⟨w.heap.size, 0, none⟩ = some (.int .i64 c.kind) := by rw [HE.out.cell, HCs.out]; exact cd_kind
  have c2 : w1.cell? ⟨w.heap.size, 2, none⟩ = some (.bool c.fast) := by rw [HE.out.cell, HCs.out]; exact cd_fast
  obtain ⟨x, hx⟩ : ∃ x, x = c.kind := ⟨_, rfl⟩
  obtain ⟨F, hF⟩ : ∃ x, x = c.fast := ⟨_, rfl⟩
  rw [← hx] at c0 hq
  rw [← hF] at c2 hq
  clear hx hF HE
  cases F with
  | false =>
    have HQ := Lib.hid (show q = true by rw [hq]; simp)
    clear hq
    go_wp2_with fail
    all_goals go_ret
    all_goals exact ⟨by rw [HQ.out]; rfl, hb1⟩
  | true =>
    by_cases h2 : x = 2
    · have e2 : (x == 2) = true := by simpa using h2
      have HQ := Lib.hid (show q = true by rw [hq]; simp [h2])
      clear hq h2
      go_wp2_with fail
      all_goals go_ret
      all_goals exact ⟨by rw [HQ.out]; rfl, hb1⟩
    · have e2 : (x == 2) = false := by simpa using h2
      have HQ := Lib.hid (show q = (x == 1) by rw [hq, Bool.eq_iff_iff, decide_eq_true_iff, beq_iff_eq]; simp [h2])
      clear hq h2
      go_wp2_with fail
      all_goals go_ret
      all_goals exact ⟨by rw [HQ.out]; rfl, hb1⟩
set_option linter.unusedSimpArgs false in
set_option maxRecDepth 100000 in
theorem numbersFit_any (d : Nat) (c : CardT) (cs : Array Value) (w : World) (hr : ReadsC w.heap.size w d cs c) : Calls Tryd.prog 32 #[.agg cs] w fun e w' => e = .returned (.bool (decide (BodyC c))) ∧ Below w.heap.size w w' := by
  obtain ⟨_, _, _, _, _, _, A, cc, hcs, hl, hc, hx⟩ := hr
  have HCs := Lib.hid hcs
  clear hcs hx
  obtain ⟨q, hq⟩ : ∃ q, q = decide (BodyC c) := ⟨_, rfl⟩
  rw [← hq]
  go_enter Tryd.func32, Tryd.ntmps32
  go_upto_region 1 with fail
  obtain ⟨w1, hw1⟩ : ∃ w1, w1 = w.alloc (.cells cs 27) := ⟨_, rfl⟩
  have HE := Lib.hid (show CdAt w1 w.heap.size cs by rw [hw1]; exact CdAt.new _ _)
  have hb1 : Below w.heap.size w w1 := by rw [hw1]; exact (Below.refl _ _).alloc (Nat.le_refl _) _
  rw [← hw1]
  clear hw1
  have c0 : w1.cell? ⟨w.heap.size, 0, none⟩ = some (.int .i64 c.kind) := by rw [HE.out.cell, HCs.out]; exact cd_kind
  have c9 : w1.cell? ⟨w.heap.size, 9, none⟩ = some (.int .i64 c.power) := by rw [HE.out.cell, HCs.out]; exact cd_power
  have c10 : w1.cell? ⟨w.heap.size, 10, none⟩ = some (.int .i64 c.tough) := by rw [HE.out.cell, HCs.out]; exact cd_tough
  have c11 : w1.cell? ⟨w.heap.size, 11, none⟩ = some (.int .i64 c.says) := by rw [HE.out.cell, HCs.out]; exact cd_says
  obtain ⟨k, hk⟩ : ∃ x, x = c.kind := ⟨_, rfl⟩
  obtain ⟨p, hp⟩ : ∃ x, x = c.power := ⟨_, rfl⟩
  obtain ⟨t, ht⟩ : ∃ x, x = c.tough := ⟨_, rfl⟩
  obtain ⟨s, hs⟩ : ∃ x, x = c.says := ⟨_, rfl⟩
  have hdef : q = decide (if k = 1 then (0 ≤ p ∧ p ≤ 99) ∧ (1 ≤ t ∧ t ≤ 99) ∧ (0 ≤ s ∧ s ≤ 255) else p = 0 ∧ t = 0 ∧ s = 0) := by rw [hq]; exact decide_eq_decide.2 (by unfold BodyC; rw [hk, hp, ht, hs])
  rw [← hk] at c0
  rw [← hp] at c9
  rw [← ht] at c10
  rw [← hs] at c11
  clear hk hp ht hs hq HE
  by_cases h1 : k = 1
  · have e0 : (k != 1) = false := by simpa using h1
    replace hdef : q = decide ((0 ≤ p ∧ p ≤ 99) ∧ (1 ≤ t ∧ t ≤ 99) ∧ (0 ≤ s ∧ s ≤ 255)) := by rw [hdef]; exact decide_eq_decide.2 (by rw [if_pos h1])
    clear h1
    by_cases q1 : 0 ≤ p
    case neg =>
      have e1 : decide (0 ≤ p) = false := by simpa using q1
      have HQ := Lib.hid (show q = false by rw [hdef]; exact decide_eq_false (by omega))
      clear q1 hdef
      go_wp2_with fail
      all_goals go_ret
      all_goals exact ⟨by rw [HQ.out]; rfl, hb1⟩
    have e1 : decide (0 ≤ p) = true := by simpa using q1
    by_cases q2 : p ≤ 99
    case neg =>
      have e2 : decide (p ≤ 99) = false := by simpa using q2
      have HQ := Lib.hid (show q = false by rw [hdef]; exact decide_eq_false (by omega))
      clear q2 hdef
      go_wp2_with fail
      all_goals go_ret
      all_goals exact ⟨by rw [HQ.out]; rfl, hb1⟩
    have e2 : decide (p ≤ 99) = true := by simpa using q2
    by_cases q3 : 1 ≤ t
    case neg =>
      have e3 : decide (1 ≤ t) = false := by simpa using q3
      have HQ := Lib.hid (show q = false by rw [hdef]; exact decide_eq_false (by omega))
      clear q3 hdef
      go_wp2_with fail
      all_goals go_ret
      all_goals exact ⟨by rw [HQ.out]; rfl, hb1⟩
    have e3 : decide (1 ≤ t) = true := by simpa using q3
    by_cases q4 : t ≤ 99
    case neg =>
      have e4 : decide (t ≤ 99) = false := by simpa using q4
      have HQ := Lib.hid (show q = false by rw [hdef]; exact decide_eq_false (by omega))
      clear q4 hdef
      go_wp2_with fail
      all_goals go_ret
      all_goals exact ⟨by rw [HQ.out]; rfl, hb1⟩
    have e4 : decide (t ≤ 99) = true := by simpa using q4
    by_cases q5 : 0 ≤ s
    case neg =>
      have e5 : decide (0 ≤ s) = false := by simpa using q5
      have HQ := Lib.hid (show q = false by rw [hdef]; exact decide_eq_false (by omega))
      clear q5 hdef
      go_wp2_with fail
      all_goals go_ret
      all_goals exact ⟨by rw [HQ.out]; rfl, hb1⟩
    have e5 : decide (0 ≤ s) = true := by simpa using q5
    have HQ := Lib.hid (show q = decide (s ≤ 255) by rw [hdef]; exact decide_eq_decide.2 (by omega))
    clear q1 q2 q3 q4 q5 hdef
    go_wp2_with fail
    all_goals go_ret
    all_goals exact ⟨by rw [HQ.out]; rfl, hb1⟩
  · have e0 : (k != 1) = true := by simpa using h1
    replace hdef : q = decide (p = 0 ∧ t = 0 ∧ s = 0) := by rw [hdef]; exact decide_eq_decide.2 (by rw [if_neg h1])
    clear h1
    by_cases q1 : p = 0
    case neg =>
      have e1 : (p == 0) = false := by simpa using q1
      have HQ := Lib.hid (show q = false by rw [hdef]; exact decide_eq_false (by omega))
      clear q1 hdef
      go_wp2_with fail
      all_goals go_ret
      all_goals exact ⟨by rw [HQ.out]; rfl, hb1⟩
    have e1 : (p == 0) = true := by simpa using q1
    by_cases q2 : t = 0
    case neg =>
      have e2 : (t == 0) = false := by simpa using q2
      have HQ := Lib.hid (show q = false by rw [hdef]; exact decide_eq_false (by omega))
      clear q2 hdef
      go_wp2_with fail
      all_goals go_ret
      all_goals exact ⟨by rw [HQ.out]; rfl, hb1⟩
    have e2 : (t == 0) = true := by simpa using q2
    have HQ := Lib.hid (show q = (s == 0) by rw [hdef, Bool.eq_iff_iff, decide_eq_true_iff, beq_iff_eq]; omega)
    clear q1 q2 hdef
    go_wp2_with fail
    all_goals go_ret
    all_goals exact ⟨by rw [HQ.out]; rfl, hb1⟩
end Go.Proofs.YtmdfgkfimlmmnaaDoor
