/- Layer 7: the reference's cost, Uses and Aims. -/
import Derived.Test.YtnlhblnkckkeiaaCardBase
namespace Go.Proofs.Ytnlhblnkckkeiaa
open Go.RowKit Ex Mx
attribute [local go_sem] arr_get
theorem infoI : (Try.prog.info? 3).map (fun i => (i.zero, i.size, i.bytes)) = some (some (.int .i64 0), 1, 8) := by kernel_rfl
namespace Ex
/-- A cost that may be, of nothing if it must. -/
def CostC (f : Nat → Int) (nothing : Bool) : Prop := GoodC f ∧ f 0 + f 1 + f 2 + f 3 + f 4 + f 5 ≤ 20 ∧ (nothing = true → f 0 + f 1 + f 2 + f 3 + f 4 + f 5 = 0)
/-- The places, below k, of the abilities that count then. -/
def usesK (l : List AbT) (wh : Int) : Nat → List Int
  | 0 => []
  | k + 1 => usesK l wh k ++ (match l[k]? with | some a => if a.when_ = wh then [(k : Int)] else [] | none => [])
def usesL (l : List AbT) (wh : Int) : List Int := usesK l wh l.length
theorem usesK_len (l : List AbT) (wh : Int) : ∀ k, (usesK l wh k).length ≤ k
  | 0 => by simp [usesK]
  | k + 1 => by
    have := usesK_len l wh k
    simp only [usesK, List.length_append]
    split
    · split <;> simp <;> omega
    · simp; omega
theorem usesK_yes {l : List AbT} {wh : Int} {k : Nat} {a : AbT} (h : l[k]? = some a) (hw : a.when_ = wh) : usesK l wh (k + 1) = usesK l wh k ++ [(k : Int)] := by simp [usesK, h, hw]
theorem usesK_no {l : List AbT} {wh : Int} {k : Nat} {a : AbT} (h : l[k]? = some a) (hw : a.when_ ≠ wh) : usesK l wh (k + 1) = usesK l wh k := by simp [usesK, h, hw]
/-- Each place in the list is one of an ability that counts then. -/
theorem usesK_at {l : List AbT} {wh : Int} : ∀ {k : Nat} {x : Int}, k ≤ l.length → x ∈ usesK l wh k → ∃ (j : Nat) (a : AbT), x = (j : Int) ∧ j < k ∧ l[j]? = some a ∧ a.when_ = wh
  | 0, x, _, h => by simp [usesK] at h
  | k + 1, x, hk, h => by
    have hlt : k < l.length := by omega
    have ha := List.getElem?_eq_getElem hlt
    by_cases hw : l[k].when_ = wh
    · rw [usesK_yes ha hw] at h
      rcases List.mem_append.1 h with h | h
      · obtain ⟨j, a, h1, h2, h3, h4⟩ := usesK_at (by omega) h
        exact ⟨j, a, h1, by omega, h3, h4⟩
      · simp at h; exact ⟨k, _, h, by omega, ha, hw⟩
    · rw [usesK_no ha hw] at h
      obtain ⟨j, a, h1, h2, h3, h4⟩ := usesK_at (by omega) h
      exact ⟨j, a, h1, by omega, h3, h4⟩
/-- What the first Spell aims at. -/
def aimsL : List AbT → Int
  | [] => 0
  | a :: l => if a.when_ = 0 then a.target else aimsL l
end Ex
def CostPost (f : Nat → Int) (nothing : Bool) (w : World) (e : Ending) (w' : World) : Prop := ∃ q : Bool, (q = true ↔ CostC f nothing) ∧ e = .returned (.bool q) ∧ Below w.heap.size w w'
set_option linter.unusedSimpArgs false in
set_option maxRecDepth 100000 in
set_option maxHeartbeats 1000000 in
theorem costRef_any (f : Nat → Int) (nothing : Bool) (w : World) (hw : Wide f) : Calls Try.prog 28 #[.agg (arr .i64 6 f), .bool nothing] w (CostPost f nothing w) := by
  have hsz : (Try.prog.info? 23).map (·.size) = some (arr .i64 6 f).size := by rw [arr_size]; exact size6
  go_enter Try.func28, Try.ntmps28
  go_upto_region 1 with fail
  obtain ⟨w1, hw1⟩ : ∃ w1, w1 = w.alloc (.cells (arr .i64 6 f) 23) := ⟨_, rfl⟩
  have ha : ArrAt .i64 6 23 w1 w.heap.size f := by rw [hw1]; exact ArrAt.new w .i64 6 23 f
  have hb1 : Below w.heap.size w w1 := by rw [hw1]; exact (Below.refl _ _).alloc (Nat.le_refl _) _
  rw [← hw1]
  clear hw1
  have c0 := ha.cell (i := 0) (by omega)
  have c1 := ha.cell (i := 1) (by omega)
  have c2 := ha.cell (i := 2) (by omega)
  have c3 := ha.cell (i := 3) (by omega)
  have c4 := ha.cell (i := 4) (by omega)
  have c5 := ha.cell (i := 5) (by omega)
  obtain ⟨x0, h0⟩ : ∃ x, x = f 0 := ⟨_, rfl⟩
  obtain ⟨x1, h1⟩ : ∃ x, x = f 1 := ⟨_, rfl⟩
  obtain ⟨x2, h2⟩ : ∃ x, x = f 2 := ⟨_, rfl⟩
  obtain ⟨x3, h3⟩ : ∃ x, x = f 3 := ⟨_, rfl⟩
  obtain ⟨x4, h4⟩ : ∃ x, x = f 4 := ⟨_, rfl⟩
  obtain ⟨x5, h5⟩ : ∃ x, x = f 5 := ⟨_, rfl⟩
  rw [← h0] at c0
  rw [← h1] at c1
  rw [← h2] at c2
  rw [← h3] at c3
  rw [← h4] at c4
  rw [← h5] at c5
  have r0 := hw 0 (by omega)
  have r1 := hw 1 (by omega)
  have r2 := hw 2 (by omega)
  have r3 := hw 3 (by omega)
  have r4 := hw 4 (by omega)
  have r5 := hw 5 (by omega)
  rw [← h0] at r0
  rw [← h1] at r1
  rw [← h2] at r2
  rw [← h3] at r3
  rw [← h4] at r4
  rw [← h5] at r5
  obtain ⟨s1, e1⟩ : ∃ s, wrap64 (x0 + x1) = s := ⟨_, rfl⟩
  obtain ⟨s2, e2⟩ : ∃ s, wrap64 (s1 + x2) = s := ⟨_, rfl⟩
  obtain ⟨s3, e3⟩ : ∃ s, wrap64 (s2 + x3) = s := ⟨_, rfl⟩
  obtain ⟨s4, e4⟩ : ∃ s, wrap64 (s3 + x4) = s := ⟨_, rfl⟩
  obtain ⟨s5, e5⟩ : ∃ s, wrap64 (s4 + x5) = s := ⟨_, rfl⟩
  have t1 : -9223372036854775808 ≤ s1 ∧ s1 ≤ 9223372036854775807 := by rw [← e1]; unfold wrap64; omega
  have t2 : -9223372036854775808 ≤ s2 ∧ s2 ≤ 9223372036854775807 := by rw [← e2]; unfold wrap64; omega
  have t3 : -9223372036854775808 ≤ s3 ∧ s3 ≤ 9223372036854775807 := by rw [← e3]; unfold wrap64; omega
  have t4 : -9223372036854775808 ≤ s4 ∧ s4 ≤ 9223372036854775807 := by rw [← e4]; unfold wrap64; omega
  have HS := Lib.hid (show GoodC f → s5 = f 0 + f 1 + f 2 + f 3 + f 4 + f 5 from fun hg => by
    have g0 := hg 0 (by omega)
    have g1 := hg 1 (by omega)
    have g2 := hg 2 (by omega)
    have g3 := hg 3 (by omega)
    have g4 := hg 4 (by omega)
    have g5 := hg 5 (by omega)
    rw [← h0] at g0 ⊢
    rw [← h1] at g1 ⊢
    rw [← h2] at g2 ⊢
    rw [← h3] at g3 ⊢
    rw [← h4] at g4 ⊢
    rw [← h5] at g5 ⊢
    rw [IntWalk.wrap64_in _ ⟨by omega, by omega⟩] at e1
    rw [IntWalk.wrap64_in _ ⟨by omega, by omega⟩] at e2
    rw [IntWalk.wrap64_in _ ⟨by omega, by omega⟩] at e3
    rw [IntWalk.wrap64_in _ ⟨by omega, by omega⟩] at e4
    rw [IntWalk.wrap64_in _ ⟨by omega, by omega⟩] at e5
    omega)
  clear h0 h1 h2 h3 h4 h5
  obtain ⟨a0, b0⟩ := r0
  obtain ⟨a1, b1⟩ := r1
  obtain ⟨a2, b2⟩ := r2
  obtain ⟨a3, b3⟩ := r3
  obtain ⟨a4, b4⟩ := r4
  obtain ⟨a5, b5⟩ := r5
  obtain ⟨p1, q1⟩ := t1
  obtain ⟨p2, q2⟩ := t2
  obtain ⟨p3, q3⟩ := t3
  obtain ⟨p4, q4⟩ := t4
  go_upto_region 2 with fail
  simp only [e1, e2, e3, e4, e5]
  clear c0 c1 c2 c3 c4 c5 e1 e2 e3 e4 e5 a0 b0 a1 b1 a2 b2 a3 b3 a4 b4 a5 b5 p1 q1 p2 q2 p3 q3 p4 q4
  go_wp2_with (refine wpList_load_row rfl 23 (.tmp 2) rfl w.heap.size rfl 23 _ (0, 0) _ ha Try.underlying23 rfl hsz ?_)
  by_cases hg : GoodC f
  · have HG := Lib.hid hg
    refine (good_yes (goodRef_any f w1 hw) hg).mono ?_
    rintro e w2 ⟨rfl, hb2⟩
    replace HS := Lib.hid (HS.out hg)
    clear hg ha
    by_cases h20 : s5 ≤ 20
    · have d20 : decide (s5 ≤ 20) = true := by simpa using h20
      have H20 := Lib.hid h20
      clear h20
      cases nothing with
      | true =>
        by_cases hz : s5 = 0
        · have HQ := Lib.hid (show CostC f true from ⟨HG.out, by have := HS.out; have := H20.out; omega, fun _ => by have := HS.out; omega⟩)
          have dz : (s5 == 0) = true := by simpa using hz
          clear hz
          go_wp2_with fail
          go_ret
          exact ⟨true, ⟨fun _ => HQ.out, fun _ => rfl⟩, rfl, keepB hb2 hb1⟩
        · have HQ := Lib.hid (show ¬ CostC f true from fun h => hz (by rw [HS.out]; exact h.2.2 rfl))
          have dz : (s5 == 0) = false := by simpa using hz
          clear hz
          go_wp2_with fail
          go_ret
          exact ⟨false, ⟨fun h => (by cases h), fun h => absurd h HQ.out⟩, rfl, keepB hb2 hb1⟩
      | false =>
        have HQ := Lib.hid (show CostC f false from ⟨HG.out, by have := HS.out; have := H20.out; omega, fun h => (by cases h)⟩)
        go_wp2_with fail
        go_ret
        exact ⟨true, ⟨fun _ => HQ.out, fun _ => rfl⟩, rfl, keepB hb2 hb1⟩
    · have d20 : decide (s5 ≤ 20) = false := by simpa using h20
      have HQ := Lib.hid (show ¬ CostC f nothing from fun h => h20 (by rw [HS.out]; exact h.2.1))
      clear h20
      go_wp2_with fail
      go_ret
      exact ⟨false, ⟨fun h => (by cases h), fun h => absurd h HQ.out⟩, rfl, keepB hb2 hb1⟩
  · have HG := Lib.hid hg
    refine (good_no (goodRef_any f w1 hw) hg).mono ?_
    rintro e w2 ⟨rfl, hb2⟩
    clear hg ha
    go_wp2_with fail
    go_ret
    exact ⟨false, ⟨fun h => (by cases h), fun h => absurd h.1 HG.out⟩, rfl, keepB hb2 hb1⟩
end Go.Proofs.Ytnlhblnkckkeiaa
