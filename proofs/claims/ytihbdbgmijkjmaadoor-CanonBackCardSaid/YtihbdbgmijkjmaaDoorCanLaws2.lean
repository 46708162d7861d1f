/- Layer 11: the law CanonParses. -/
import Derived.Test.YtihbdbgmijkjmaaDoorCanG1
namespace Go.Proofs.YtihbdbgmijkjmaaDoor
open Go.RowKit Ex Px Wx
attribute [local go_sem] arr_get
set_option maxRecDepth 100000
/-- How long the lists of what was parsed are. -/
theorem parse_small {l : List Int} (hl : byB l) {s : StT} {e : Int} (h : parseS l = (s, e)) : s.objs.length ≤ 1000000 ∧ ∀ z < 11, (s.lists z).length ≤ 1000000 := by
  by_cases he : e = 0
  · subst he
    have ht := parse_ok hl h
    obtain ⟨h1, _, h3, _⟩ := chk_ranges ht.chk
    exact ⟨by omega, fun z hz => by have := zones_list h3 hz; omega⟩
  · have := parse_err he h
    subst this
    exact ⟨by simp [sT0], fun z _ => by simp [sT0]⟩
set_option linter.unusedSimpArgs false in
set_option maxHeartbeats 0 in
theorem canonParses_walk {w : World} (S : CanSaid w) (A : Option Addr) (n c : Nat) (l : List Int) (hN : Nums .u8 w w.heap.size A n l) (hnc : n ≤ c) (hb : byB l) :
    Calls Tryd.prog 4 #[.slice A n c] w fun e w' => e = .returned (.bool true) ∧ Below w.heap.size w w' := by
  have hln := hN.len
  have HN := Lib.hid hN
  have HB := Lib.hid hb
  clear hN hb
  go_enter Tryd.func4, Tryd.ntmps4
  go_wp2_with fail
  refine (canAlive S w (Below.refl _ _)).mono ?_
  rintro e w1 ⟨rfl, hb1⟩
  by_cases h5 : 2000 < n
  · have d5 : decide ((2000 : Int) < (n : Int)) = true := decide_eq_true (by omega)
    clear h5
    go_wp2_with fail
    go_ret
    exact ⟨rfl, hb1⟩
  have d5 : decide ((2000 : Int) < (n : Int)) = false := decide_eq_false (by omega)
  go_wp2_with fail
  refine (S.parse A n c l w1 ((HN.out.below hb1).more hb1.size) hnc HB.out (by omega) hb1).mono ?_
  rintro e w2 ⟨c2, O2, L2, rfl, hR2, hb2⟩
  have hbw2 := keepB hb2 hb1
  obtain ⟨p, q, hp⟩ : ∃ p q, parseS l = (p, q) := ⟨_, _, rfl⟩
  obtain ⟨hn6, hl6⟩ := parse_small HB.out hp
  rw [hp] at hR2 ⊢
  simp only at hR2 ⊢
  have hsz2 := hR2.size
  have hnew : (w2.alloc (.cells st0 29)).heap[w2.heap.size]? = some (.cells st0 29 (0, 0)) := heap_alloc_new _ _
  have hsz : (Tryd.prog.info? 29).map (·.size) = some c2.size := by rw [hR2.size]; exact size37
  have hs0 : st0.size = c2.size := by rw [hR2.size, show st0.size = 37 from stC_size _ _ _ _]
  have hone := hR2.one
  have hz := st0_is
  go_upto_region 6 with (refine wpList_store_row rfl 29 (.tmp 3) (.tmp 15) rfl w2.heap.size _ rfl rfl 29 st0 hnew hsz hs0 hone ?_)
  clear hnew hsz hs0 hone hz
  obtain ⟨w3, hw3, hg3, hb3⟩ := box_new w2 c2
  rw [← hw3]
  have hR3 := hR2.grow hb3
  have hbw3 := keepB hb3 hbw2
  obtain ⟨g3, hg⟩ : ∃ g3, g3 = w2.heap.size := ⟨_, rfl⟩
  rw [← hg] at hg3
  rw [← hg]
  clear hw3 hg hb3 hR2
  go_wp2_with fail
  refine (parseRef11_any A n c l w3 ((HN.out.below hbw3).more hbw3.size) hnc HB.out (by omega)).mono ?_
  rintro e w4 ⟨c4, O4, L4, rfl, hR4, hb4⟩
  rw [hp] at hR4 ⊢
  simp only at hR4 ⊢
  have hsz4 := hR4.size
  have hg34 := hg3.keep hb4
  have hR34 := hR3.grow hb4
  have hbw4 := keepB hb4 hbw3
  clear hg3 hR3
  have hnew : (w4.alloc (.cells st0 29)).heap[w4.heap.size]? = some (.cells st0 29 (0, 0)) := heap_alloc_new _ _
  have hsz : (Tryd.prog.info? 29).map (·.size) = some c4.size := by rw [hR4.size]; exact size37
  have hs0 : st0.size = c4.size := by rw [hR4.size, show st0.size = 37 from stC_size _ _ _ _]
  have hone := hR4.one
  have hz := st0_is
  go_upto_region 7 with (refine wpList_store_row rfl 29 (.tmp 5) (.tmp 20) rfl w4.heap.size _ rfl rfl 29 st0 hnew hsz hs0 hone ?_)
  clear hnew hsz hs0 hone hz
  obtain ⟨w5, hw5, hg5, hb5⟩ := box_new w4 c4
  rw [← hw5]
  have hR5 := hR4.grow hb5
  have hR35 := hR34.grow hb5
  have hg35 := hg34.keep hb5
  have hbw5 := keepB hb5 hbw4
  obtain ⟨g5, hg⟩ : ∃ g5, g5 = w4.heap.size := ⟨_, rfl⟩
  rw [← hg] at hg5
  rw [← hg]
  have hst := states_any p p _ _ _ _ c2 c4 w5 hR35 hR5 hn6 hn6 hl6 hl6
  rw [sameS_refl] at hst
  have HSt := Lib.hid hst
  clear hw5 hg hb5 hR4 hR34 hg34 hR5 hR35 hst
  go_wp2_with (first
    | (refine load_wantS (by rfl) (.tmp 3) rfl g3 rfl c2 hg35 hsz2 ?_)
    | (refine load_wantS (by rfl) (.tmp 5) rfl g5 rfl c4 hg5 hsz4 ?_))
  refine HSt.out.mono ?_
  rintro e w6 ⟨rfl, hb6⟩
  have hqq : (q == q) = true := by simp
  go_wp2_with fail
  refine (num_by q w6).mono ?_
  rintro e w7 ⟨rfl, rfl⟩
  go_wp2_with fail
  go_ret
  exact ⟨rfl, keepB hb6 hbw5⟩
end Go.Proofs.YtihbdbgmijkjmaaDoor
