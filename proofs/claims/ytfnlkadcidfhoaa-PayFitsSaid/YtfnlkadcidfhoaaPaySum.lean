/- Layer 5: Sum of the landed code. -/
import Derived.Test.YtfnlkadcidfhoaaPayB
import Derived.Test.YtfnlkadcidfhoaaManaB
namespace Go.Proofs.Ytfnlkadcidfhoaa
open Go.RowKit Mx Yx
attribute [local go_sem] arr_get
theorem StF.keep {w wr wy : World} {f c : Nat → Int} (h : StF w f c wr) (hb : Below wr.heap.size wr wy) : StF w f c wy :=
  ⟨h.p.keep hb, h.c.keep hb, h.r.keep hb, keepB hb h.b⟩
theorem StF.setRow {w wr : World} {f c : Nat → Int} (h : StF w f c wr) (g : Nat → Int) : StF w g c (wr.setRow w.heap.size (arr .i64 6 g)) :=
  ⟨h.p.setRow g, h.c.farRow (by omega) _, h.r.farRow (by omega) _, below_setRow h.b _ _ (by omega)⟩
/-- Two costs together, so far. -/
def addK (a b : Nat → Int) (k : Nat) : Nat → Int := fun i => if i < k then a i + b i else a i
theorem addK_at (a b : Nat → Int) (k : Nat) : addK a b k k = a k := by unfold addK; rw [if_neg (by omega)]
theorem addK_next (a b : Nat → Int) (k : Nat) : updI (addK a b k) k (addK a b k k + b k) = addK a b (k + 1) := by
  rw [addK_at]
  funext i; unfold updI addK
  by_cases e : i = k
  · subst e; rw [if_pos rfl, if_pos (by omega)]
  · rw [if_neg e]
    by_cases h : i < k
    · rw [if_pos h, if_pos (by omega)]
    · rw [if_neg h, if_neg (by omega)]
theorem addK_zero (a b : Nat → Int) : addK a b 0 = a := by funext i; unfold addK; rw [if_neg (by omega)]
theorem addK_step {a b : Nat → Int} {k : Nat} (hk : k < 6) (hb : GoodC b) (hg : GoodC (addK a b k)) {g : Nat → Int} {j : Int} (h : AddR (addK a b k) (k : Int) (b k) g j) :
    (g = addK a b (k + 1) ∧ j = 0 ∧ GoodC g) ∨ (¬ GoodC (addF a b) ∧ g = zeroC ∧ j = 1) := by
  unfold AddR at h
  have hbk := hb k hk
  rcases h with ⟨h, _⟩ | ⟨_, h, _⟩ | ⟨_, _, h, rfl, rfl⟩ | ⟨_, _, h, rfl, rfl⟩
  · exact absurd hg h
  · exfalso; omega
  · refine .inr ⟨fun hc => h ⟨hbk.1, ?_⟩, rfl, rfl⟩
    rw [Int.toNat_natCast, addK_at]
    have := hc k hk
    unfold addF at this
    omega
  · rw [Int.toNat_natCast, addK_next]
    rw [Int.toNat_natCast, addK_at] at h
    refine .inl ⟨rfl, rfl, fun i hi => ?_⟩
    have h1 := hg i hi
    unfold addK at h1 ⊢
    by_cases e : i = k
    · subst e; rw [if_neg (by omega)] at h1; rw [if_pos (by omega)]; omega
    · by_cases h2 : i < k
      · rw [if_pos h2] at h1; rw [if_pos (by omega)]; exact h1
      · rw [if_neg h2] at h1; rw [if_neg (by omega)]; exact h1
theorem addK_six {a b : Nat → Int} (h : GoodC (addK a b 6)) : GoodC (addF a b) ∧ ∀ i, i < 6 → addK a b 6 i = addF a b i := by
  have e : ∀ i, i < 6 → addK a b 6 i = addF a b i := fun i hi => by unfold addK addF; rw [if_pos hi]
  exact ⟨fun i hi => by rw [← e i hi]; exact h i hi, e⟩
def SuRel (w : World) (a b : Nat → Int) (i : Value) (wr : World) : Prop := ∃ k : Nat, i = .int .i64 ((k : Nat) : Int) ∧ k ≤ 6 ∧ GoodC (addK a b k) ∧ StF w (addK a b k) b wr
set_option linter.unusedSimpArgs false in
set_option maxRecDepth 100000 in
set_option maxHeartbeats 1000000 in
theorem sum_any (a b : Nat → Int) (w : World) (hp : Wide a) (hc : Wide b) : Calls Try.prog 15 #[.agg (arr .i64 6 a), .agg (arr .i64 6 b)] w (SumPost a b errV w) := by
  have hsz : ∀ g, (Try.prog.info? 23).map (·.size) = some (arr .i64 6 g).size := fun g => by rw [arr_size]; exact size6
  have h1 : ∀ g, (arr .i64 6 g).all (·.oneCell') = true := fun g => arr_one .i64 6 g
  have hz6 := zero6
  go_enter Try.func15, Try.ntmps15
  go_upto_region 1 with fail
  obtain ⟨w1, hw1, hs⟩ := boxes3 w a b
  rw [← hw1]
  clear hw1
  go_wp2_with (first
    | (refine wpList_load_row rfl 23 (.tmp 2) rfl w.heap.size rfl 23 _ (0, 0) _ hs.p Try.underlying23 rfl (hsz a) ?_)
    | (refine wpList_load_row rfl 23 (.tmp 3) rfl (w.heap.size + 1) rfl 23 _ (0, 0) _ hs.c Try.underlying23 rfl (hsz b) ?_))
  obtain ⟨B, hB, hC⟩ := truth_both (bothGood_any a b w1 hp hc)
  refine hC.mono ?_
  rintro e w2 ⟨rfl, hb2⟩
  have hs2 := hs.keep hb2
  clear hb2 hs
  by_cases hg : GoodC a ∧ GoodC b
  · obtain rfl : B = true := hB.2 hg
    clear hB hC
    have HG := Lib.hid hg
    obtain ⟨ga, gb⟩ := hg
    have HS2 := Lib.hid hs2
    go_upto_region 4 with (refine wpList_load_row rfl 23 (.tmp 3) rfl (w.heap.size + 1) rfl 23 _ (0, 0) _ hs2.c Try.underlying23 rfl (hsz b) ?_)
    clear hs2
    go_loopw [17] (fun i wr => SuRel w a b i wr) (fun i _ => 6 - (intOf i).toNat)
    case atStart => exact ⟨0, rfl, by omega, by rw [addK_zero]; exact ga, by rw [addK_zero]; exact HS2.out⟩
    case round =>
      obtain ⟨k, rfl, hk, hgk, hs⟩ := hrel
      have HGk := Lib.hid hgk
      clear hgk HS2
      by_cases hlt : k < 6
      · have hix := index_cost b k hlt
        obtain ⟨n0, n1⟩ := gb k hlt
        have hadd := fun W => add_any (addK a b k) (k : Int) (b k) W (good_wide HGk.out) (by omega) (by omega) (by omega) (by omega)
        have HStep := Lib.hid (fun g j (h : AddR (addK a b k) (k : Int) (b k) g j) => addK_step hlt gb HGk.out h)
        obtain ⟨n, hn⟩ : ∃ n, n = b k := ⟨_, rfl⟩
        rw [← hn] at hix n0 n1 hadd HStep
        have HAdd := Lib.hid hadd
        clear hn hadd ga gb
        go_wp2_with (refine wpList_load_row rfl 23 (.tmp 2) rfl w.heap.size rfl 23 _ (0, 0) _ hs.p Try.underlying23 rfl (hsz (addK a b k)) ?_)
        refine (HAdd.out _).mono ?_
        rintro e w3 ⟨g, j, hR, rfl, hb3⟩
        have hs3 := hs.keep hb3
        clear hb3 hs hix
        have hnew : (w3.alloc (.cells (arr .i64 6 zeroC) 23)).heap[w3.heap.size]? = some (.cells (arr .i64 6 zeroC) 23 (0, 0)) := heap_alloc_new _ _
        have hlt3 := hs3.r.lt
        rcases HStep.out g j hR with ⟨hge, rfl, hgg⟩ | ⟨hbad, rfl, rfl⟩
        · have HGg := Lib.hid hgg
          have HGe := Lib.hid hge
          clear hge hgg hR
          rw [show errV 0 = .nilIface from rfl]
          go_upto_region 7 with (refine wpList_store_row rfl 23 (.tmp 8) (.tmp 26) rfl w3.heap.size _ rfl rfl 23 (arr .i64 6 zeroC) hnew (hsz g) (by rw [arr_size, arr_size]) (h1 g) ?_)
          obtain ⟨w4, hw4⟩ : ∃ w4, w4 = (w3.alloc (.cells (arr .i64 6 zeroC) 23)).setRow w3.heap.size (arr .i64 6 g) := ⟨_, rfl⟩
          have a8 : ArrAt .i64 6 23 w4 w3.heap.size g := by rw [hw4]; exact ArrAt.setRow (show ArrAt .i64 6 23 _ _ _ from hnew) _
          have hs4 := hs3.keep (wy := w4) (by rw [hw4]; exact below_setRow ((Below.refl _ _).alloc (Nat.le_refl _) _) _ _ (Nat.le_refl _))
          rw [← hw4]
          clear hw4 hnew hs3
          have HS5 := Lib.hid (hs4.setRow g)
          go_wp2_with (first
            | (refine wpList_load_row rfl 23 (.tmp 8) rfl w3.heap.size rfl 23 _ (0, 0) _ a8 Try.underlying23 rfl (hsz g) ?_)
            | (refine wpList_store_row rfl 23 (.tmp 2) (.tmp 32) rfl w.heap.size _ rfl rfl 23 (arr .i64 6 (addK a b k)) hs4.p (hsz g) (by rw [arr_size, arr_size]) (h1 g) ?_))
          go_roundw
          case rel => exact ⟨k + 1, by go_num, by omega, by rw [← HGe.out]; exact HGg.out, by rw [← HGe.out]; exact HS5.out⟩
          case measure => simp [intOf]; omega
        · have HBad := Lib.hid hbad
          clear hbad hR
          rw [show errV 1 = .iface 41 (.int .i64 1) from rfl]
          go_upto_region 7 with (refine wpList_store_row rfl 23 (.tmp 8) (.tmp 26) rfl w3.heap.size _ rfl rfl 23 (arr .i64 6 zeroC) hnew (hsz zeroC) rfl (h1 zeroC) ?_)
          obtain ⟨w4, hw4⟩ : ∃ w4, w4 = (w3.alloc (.cells (arr .i64 6 zeroC) 23)).setRow w3.heap.size (arr .i64 6 zeroC) := ⟨_, rfl⟩
          have hs4 := hs3.keep (wy := w4) (by rw [hw4]; exact below_setRow ((Below.refl _ _).alloc (Nat.le_refl _) _) _ _ (Nat.le_refl _))
          rw [← hw4]
          clear hw4 hnew hs3
          go_wp2_with (refine wpList_store_row rfl 23 (.tmp 4) (.tmp 30) rfl (w.heap.size + 1 + 1) _ rfl rfl 23 (arr .i64 6 zeroC) hs4.r (hsz zeroC) rfl (h1 zeroC) ?_)
          refine bodyPost_ret (v := .tuple #[.agg (arr .i64 6 zeroC), .iface 41 (.int .i64 1)]) ?_ rfl ⟨zeroC, 1, .inr (.inl ⟨HG.out, HBad.out, rfl, rfl⟩), rfl, below_setRow hs4.b _ _ (by omega)⟩
          exact results_cell_tmp (ty := 23) (p := 4) (q := 5) (by kernel_rfl) _ _ (w.heap.size + 1 + 1) 23 _ (0, 0) _ rfl (hs4.r.setRow _) Try.underlying23 rfl (hsz zeroC)
      · obtain rfl : k = 6 := by omega
        have hsix := addK_six HGk.out
        have HSix := Lib.hid hsix
        clear hsix
        go_wp2_with (first
          | (refine wpList_load_row rfl 23 (.tmp 2) rfl w.heap.size rfl 23 _ (0, 0) _ hs.p Try.underlying23 rfl (hsz (addK a b 6)) ?_)
          | (refine wpList_store_row rfl 23 (.tmp 4) (.tmp 34) rfl (w.heap.size + 1 + 1) _ rfl rfl 23 (arr .i64 6 zeroC) hs.r (hsz (addK a b 6)) (by rw [arr_size, arr_size]) (h1 (addK a b 6)) ?_))
        refine bodyPost_ret (v := .tuple #[.agg (arr .i64 6 (addK a b 6)), .nilIface]) ?_ rfl ⟨addK a b 6, 0, .inr (.inr ⟨HG.out, HSix.out.1, HSix.out.2, rfl⟩), rfl, below_setRow hs.b _ _ (by omega)⟩
        exact results_cell_tmp (ty := 23) (p := 4) (q := 5) (by kernel_rfl) _ _ (w.heap.size + 1 + 1) 23 _ (0, 0) _ rfl (hs.r.setRow _) Try.underlying23 rfl (hsz (addK a b 6))
  · obtain rfl : B = false := by cases h : B; rfl; exact absurd (hB.1 h) hg
    clear hB hC
    go_wp2_with (refine wpList_store_row rfl 23 (.tmp 4) (.tmp 14) rfl (w.heap.size + 1 + 1) _ rfl rfl 23 (arr .i64 6 zeroC) hs2.r (hsz zeroC) rfl (h1 zeroC) ?_)
    refine bodyPost_ret (v := .tuple #[.agg (arr .i64 6 zeroC), .iface 41 (.int .i64 2)]) ?_ rfl ⟨zeroC, 2, .inl ⟨hg, rfl, rfl⟩, rfl, below_setRow hs2.b _ _ (by omega)⟩
    exact results_cell_tmp (ty := 23) (p := 4) (q := 5) (by kernel_rfl) _ _ (w.heap.size + 1 + 1) 23 _ (0, 0) _ rfl (hs2.r.setRow _) Try.underlying23 rfl (hsz zeroC)
end Go.Proofs.Ytfnlkadcidfhoaa
