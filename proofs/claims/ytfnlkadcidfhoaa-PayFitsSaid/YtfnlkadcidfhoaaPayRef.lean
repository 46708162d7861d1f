/- Layer 5: the reference's total, Can, Is. -/
import Derived.Test.YtfnlkadcidfhoaaPayMath
import Derived.Test.YtfnlkadcidfhoaaManaA
namespace Go.Proofs.Ytfnlkadcidfhoaa
open Go.RowKit Mx Yx
attribute [local go_sem] arr_get
theorem wantArr {P : Program} {ops : Array Oper} {rest : List Oper} {o : Oper} {a : Act} {w : World} {Q : Exit → Act → World → Prop} (hw : Region.wanted o (yielded ops a.tmps) = true) (ty : TypeId) (x : Operand) (ho : o.op = .load ty x)
    (g : Nat) (hx : a.eval x = .pointer (some ⟨g, 0, none⟩)) (t : TypeId) (cs : Array Value) (fr : Nat × Nat) (d : TypeDesc) (hg : w.heap[g]? = some (.cells cs t fr))
    (hu : P.underlying ty = some d) (hd : (match d with | .struct _ | .array _ _ => true | _ => false) = true) (hi : (P.info? ty).map (·.size) = some cs.size)
    (h : wpList P ops Q rest (a.put o.dst (.agg cs)) w) : wpList P ops Q (o :: rest) a w :=
  BigFrame.wpList_want hw fun _ hK => wp_load_row ty x ho g hx t cs fr d hg hu hd hi (hK _ _ h)
set_option maxRecDepth 100000 in
theorem totalRef_any (c : Nat → Int) (w : World) (hc : GoodC c) : Calls Try.prog 25 #[.agg (arr .i64 6 c)] w fun e w' => e = .returned (.int .i64 (sumF c 6)) ∧ Below w.heap.size w w' := by
  go_enter Try.func25, Try.ntmps25
  go_upto_region 1 with fail
  obtain ⟨w1, hw1⟩ : ∃ w1, w1 = w.alloc (.cells (arr .i64 6 c) 23) := ⟨_, rfl⟩
  have ha : ArrAt .i64 6 23 w1 w.heap.size c := by rw [hw1]; exact ArrAt.new w .i64 6 23 c
  have hb1 : Below w.heap.size w w1 := by rw [hw1]; exact (Below.refl _ _).alloc (Nat.le_refl _) _
  rw [← hw1]
  clear hw1
  have HC := Lib.hid (show ∀ x0 x1 x2 x3 x4 x5, x0 = c 0 → x1 = c 1 → x2 = c 2 → x3 = c 3 → x4 = c 4 → x5 = c 5 → x0 + x1 + x2 + x3 + x4 + x5 = sumF c 6 by
    rintro _ _ _ _ _ _ rfl rfl rfl rfl rfl rfl; simp only [sumF]; omega)
  have p0 := ha.cell (i := 0) (by omega)
  have p1 := ha.cell (i := 1) (by omega)
  have p2 := ha.cell (i := 2) (by omega)
  have p3 := ha.cell (i := 3) (by omega)
  have p4 := ha.cell (i := 4) (by omega)
  have p5 := ha.cell (i := 5) (by omega)
  have g0 := hc 0 (by omega)
  have g1 := hc 1 (by omega)
  have g2 := hc 2 (by omega)
  have g3 := hc 3 (by omega)
  have g4 := hc 4 (by omega)
  have g5 := hc 5 (by omega)
  obtain ⟨x0, hx0⟩ : ∃ x, x = c 0 := ⟨_, rfl⟩
  obtain ⟨x1, hx1⟩ : ∃ x, x = c 1 := ⟨_, rfl⟩
  obtain ⟨x2, hx2⟩ : ∃ x, x = c 2 := ⟨_, rfl⟩
  obtain ⟨x3, hx3⟩ : ∃ x, x = c 3 := ⟨_, rfl⟩
  obtain ⟨x4, hx4⟩ : ∃ x, x = c 4 := ⟨_, rfl⟩
  obtain ⟨x5, hx5⟩ : ∃ x, x = c 5 := ⟨_, rfl⟩
  rw [← hx0] at p0 g0
  rw [← hx1] at p1 g1
  rw [← hx2] at p2 g2
  rw [← hx3] at p3 g3
  rw [← hx4] at p4 g4
  rw [← hx5] at p5 g5
  have HS := Lib.hid (HC.out _ _ _ _ _ _ hx0 hx1 hx2 hx3 hx4 hx5)
  clear hx0 hx1 hx2 hx3 hx4 hx5 ha
  go_wp2_with fail
  go_ret
  exact ⟨by rw [← HS.out]; rfl, hb1⟩
def CanPost (pool cost : Nat → Int) (w : World) (e : Ending) (w' : World) : Prop := ((CanC pool cost ∧ e = .returned (.bool true)) ∨ (¬ CanC pool cost ∧ e = .returned (.bool false))) ∧ Below w.heap.size w w'
theorem can_both {pool cost : Nat → Int} {w : World} {g : FuncId} {xs : Array Value} (h : Calls Try.prog g xs w (CanPost pool cost w)) : ∃ B : Bool, (B = true ↔ CanC pool cost) ∧ Calls Try.prog g xs w fun e w' => e = .returned (.bool B) ∧ Below w.heap.size w w' := by
  by_cases hc : CanC pool cost
  · exact ⟨true, by simp [hc], h.mono fun _ _ ⟨h1, h2⟩ => ⟨by
      rcases h1 with ⟨_, h1⟩ | ⟨h1, _⟩
      · exact h1
      · exact absurd hc h1, h2⟩⟩
  · exact ⟨false, by simp [hc], h.mono fun _ _ ⟨h1, h2⟩ => ⟨by
      rcases h1 with ⟨h1, _⟩ | ⟨_, h1⟩
      · exact absurd h1 hc
      · exact h1, h2⟩⟩
def CRel (w2 : World) (pool cost : Nat → Int) (o i : Value) (wr : World) : Prop := ∃ k : Nat, i = .int .i64 ((k : Nat) : Int) ∧ o = .int .i64 (overC pool cost k) ∧ k ≤ 5 ∧ ColC pool cost k ∧ Below w2.heap.size w2 wr
theorem over_range {pool cost : Nat → Int} (hp : GoodC pool) (hc : GoodC cost) : ∀ k, k ≤ 5 → -5000 ≤ overC pool cost k ∧ overC pool cost k ≤ 6000 := by
  intro k hk
  have h5 := hp 5 (by omega)
  have : ∀ k : Nat, k ≤ 5 → -1000 * (k : Int) ≤ sumF (fun i => pool i - cost i) k ∧ sumF (fun i => pool i - cost i) k ≤ 1000 * k := by
    intro k
    induction k with
    | zero => intro _; simp [sumF]
    | succ k ih =>
      intro hk
      have := ih (by omega)
      have := hp k (by omega)
      have := hc k (by omega)
      simp only [sumF]; omega
  have := this k hk
  unfold overC; omega
theorem colC_next {pool cost : Nat → Int} {k : Nat} (h : ColC pool cost k) (hk : cost k ≤ pool k) : ColC pool cost (k + 1) := fun i hi => by
  by_cases e : i = k
  · subst e; exact hk
  · exact h i (by omega)
theorem i64_in' {x : Int} (h0 : -9223372036854775808 ≤ x) (h1 : x ≤ 9223372036854775807) : IntKind.i64.wrap x = x := i64_in h0 h1
set_option maxRecDepth 100000 in
set_option maxHeartbeats 1000000 in
theorem canRef_any (pool cost : Nat → Int) (w : World) (hp : Wide pool) (hc : Wide cost) : Calls Try.prog 12 #[.agg (arr .i64 6 pool), .agg (arr .i64 6 cost)] w (CanPost pool cost w) := by
  have hsz : ∀ g, (Try.prog.info? 23).map (·.size) = some (arr .i64 6 g).size := fun g => by rw [arr_size]; exact size6
  go_enter Try.func12, Try.ntmps12
  go_upto_region 1 with fail
  obtain ⟨w1, hw1⟩ : ∃ w1, w1 = (w.alloc (.cells (arr .i64 6 pool) 23)).alloc (.cells (arr .i64 6 cost) 23) := ⟨_, rfl⟩
  have ha : ArrAt .i64 6 23 w1 w.heap.size pool := by rw [hw1]; exact (ArrAt.new w .i64 6 23 pool).alloc _
  have hd : ArrAt .i64 6 23 w1 (w.heap.size + 1) cost := by
    have h := ArrAt.new (w.alloc (.cells (arr .i64 6 pool) 23)) .i64 6 23 cost
    rw [hw1]; simpa using h
  have hb1 : Below w.heap.size w w1 := by rw [hw1]; exact ((Below.refl _ _).alloc (Nat.le_refl _) _).alloc (by simp) _
  rw [← hw1]
  clear hw1
  have hg1 := fun W => goodRef_any pool W hp
  have hg2 := fun W => goodRef_any cost W hc
  go_wp2_with (refine wpList_load_row rfl 23 (.tmp 2) rfl w.heap.size rfl 23 _ (0, 0) _ ha Try.underlying23 rfl (hsz pool) ?_)
  by_cases h1 : GoodC pool
  · refine (good_yes (hg1 _) h1).mono ?_
    rintro e w2 ⟨rfl, hb2⟩
    have ha2 := ha.keep hb2
    have hd2 := hd.keep hb2
    have hbw2 := keepB hb2 hb1
    clear ha hd hb2 hb1 hg1
    go_wp2_with (refine wantArr (by rfl) 23 (.tmp 3) rfl (w.heap.size + 1) rfl 23 _ (0, 0) _ hd2 Try.underlying23 rfl (hsz cost) ?_)
    by_cases h2 : GoodC cost
    · refine (good_yes (hg2 _) h2).mono ?_
      rintro e w3 ⟨rfl, hb3⟩
      have HA := Lib.hid (ha2.keep hb3)
      have HD := Lib.hid (hd2.keep hb3)
      have hbw3 := keepB hb3 hbw2
      clear ha2 hd2 hb3 hbw2 hg2 hsz
      have q5 := HA.out.cell (i := 5) (by omega)
      go_wp2_with fail
      go_loopw [5, 6] (fun o i wr => CRel w3 pool cost o i wr) (fun _ i _ => 5 - (intOf i).toNat)
      case atStart => exact ⟨0, rfl, by simp [overC, sumF], by omega, fun i hi => absurd hi (by omega), Below.refl _ _⟩
      case round =>
        obtain ⟨k, rfl, rfl, hk, hcol, hb⟩ := hrel
        have HCol := Lib.hid hcol
        clear hcol
        by_cases hlt : k < 5
        · have r1 := (HA.out.keep hb).cell (show k < 6 by omega)
          have r2 := (HD.out.keep hb).cell (show k < 6 by omega)
          obtain ⟨o0, o1⟩ := over_range h1 h2 k hk
          obtain ⟨x0, x1⟩ := h1 k (by omega)
          obtain ⟨y0, y1⟩ := h2 k (by omega)
          have b0 : (0 : Int) ≤ (k : Int) := by omega
          have b1 : (k : Int) < 6 := by omega
          obtain ⟨x, hx⟩ : ∃ x, x = pool k := ⟨_, rfl⟩
          obtain ⟨y, hy⟩ : ∃ y, y = cost k := ⟨_, rfl⟩
          obtain ⟨o, ho⟩ : ∃ o, o = overC pool cost k := ⟨_, rfl⟩
          rw [← hx] at r1 x0 x1
          rw [← hy] at r2 y0 y1
          rw [← ho] at o0 o1 ⊢
          have HX := Lib.hid hx
          have HY := Lib.hid hy
          have HO := Lib.hid (show o + (x - y) = overC pool cost (k + 1) by rw [ho, hx, hy]; simp only [overC, sumF]; omega)
          clear hx hy ho
          by_cases hxy : x < y
          · have HB := Lib.hid (show ¬ CanC pool cost from fun h => by have := h.2.2.1 k hlt; rw [← HX.out, ← HY.out] at this; omega)
            go_wp2_with fail
            go_quiet (fail)
            go_wp2_with fail
            go_ret
            exact ⟨.inr ⟨HB.out, rfl⟩, below_drewN (keepB hb hbw3) _⟩
          · have hd0 : decide (x < y) = false := by simpa using hxy
            have s1 : IntKind.i64.wrap (x - y) = x - y := i64_in' (by omega) (by omega)
            have s2 : IntKind.i64.wrap (o + (x - y)) = o + (x - y) := i64_in' (by omega) (by omega)
            have HN := Lib.hid (colC_next HCol.out (by rw [← HX.out, ← HY.out]; omega))
            go_wp2_with fail
            go_quiet (fail)
            go_wp2_with fail
            go_quiet (fail)
            go_wp2_with fail
            go_roundw
            case rel => exact ⟨k + 1, by go_num, by rw [← HO.out], by omega, HN.out, below_drewN hb _⟩
            case measure => simp [intOf]; omega
        · obtain rfl : k = 5 := by omega
          have r2 := (HD.out.keep hb).cell (show 5 < 6 by omega)
          obtain ⟨o, ho⟩ : ∃ o, o = overC pool cost 5 := ⟨_, rfl⟩
          rw [← ho]
          have HO := Lib.hid ho
          clear ho
          go_wp2_with fail
          go_ret
          refine ⟨?_, keepB hb hbw3⟩
          by_cases hle : cost 5 ≤ o
          · exact .inl ⟨⟨h1, h2, HCol.out, by rw [← HO.out]; exact hle⟩, by simp [hle]⟩
          · exact .inr ⟨fun h => hle (by rw [HO.out]; exact h.2.2.2), by simp [hle]⟩
    · have HB := Lib.hid (show ¬ CanC pool cost from fun h => h2 h.2.1)
      refine (good_no (hg2 _) h2).mono ?_
      rintro e w3 ⟨rfl, hb3⟩
      go_wp2_with fail
      go_ret
      exact ⟨.inr ⟨HB.out, rfl⟩, keepB hb3 hbw2⟩
  · have HB := Lib.hid (show ¬ CanC pool cost from fun h => h1 h.1)
    refine (good_no (hg1 _) h1).mono ?_
    rintro e w2 ⟨rfl, hb2⟩
    go_wp2_with fail
    go_ret
    exact ⟨.inr ⟨HB.out, rfl⟩, keepB hb2 hb1⟩
end Go.Proofs.Ytfnlkadcidfhoaa
