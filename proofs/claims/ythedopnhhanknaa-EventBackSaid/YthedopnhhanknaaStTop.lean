/- Layer 10: the code's isList and Top. -/
import Derived.Test.YthedopnhhanknaaEvG1
import Derived.OwnWalk
namespace Go.Proofs.Ythedopnhhanknaa
open Go.RowKit Ex
attribute [local go_sem] arr_get
set_option maxRecDepth 100000
theorem isList_any (z : Int) (w : World) : Calls Try.prog 56 #[.int .i64 z] w fun e w' => e = .returned (.bool (decide (0 ≤ z) && decide (z < 11))) ∧ w = w' := by
  go_enter Try.func56, Try.ntmps56
  go_wp2_with fail
  all_goals (go_ret; refine ⟨?_, rfl⟩; simp [*] <;> omega)
/-- The last number of a list, and whether there is one. -/
def topB (s : StT) (z : Int) : Bool := decide (0 ≤ z) && decide (z < 11) && decide (0 < (s.lists z.toNat).length)
def topX (s : StT) (z : Int) : Int := if topB s z = true then (s.lists z.toNat).getD ((s.lists z.toNat).length - 1) 0 else 0
set_option maxHeartbeats 0 in
theorem top_code (s : StT) (O : SlT) (L : Nat → SlT) (cs : Array Value) (z : Int) (w : World) (B : Nat) (h : ReadsS B w cs s O L) (hB : B ≤ w.heap.size) (hll : ∀ z < 11, (s.lists z).length ≤ 1000000) :
    Calls Try.prog 44 #[.agg cs, .int .i64 z] w fun e w' => e = .returned (.tuple #[.int .i64 (topX s z), .bool (topB s z)]) ∧ Below w.heap.size w w' := by
  have hl := isList_any z
  obtain ⟨q, hq⟩ : ∃ q, q = topX s z := ⟨_, rfl⟩
  obtain ⟨r, hr⟩ : ∃ r, r = topB s z := ⟨_, rfl⟩
  rw [← hq, ← hr]
  have HQ := Lib.hid hq
  have HR := Lib.hid hr
  clear hq hr
  go_enter Try.func44, Try.ntmps44
  have hcs := h.cs
  have c0 : cs[0]? = some (.slice O.A O.n O.c) := by rw [hcs]; exact stC_objs _ _ _ _
  have hOn := h.on
  have hOc := h.oc
  have hO := h.o
  have hsz : (Try.prog.info? 29).map (·.size) = some cs.size := by rw [h.size]; exact size37
  have H := Lib.hid h
  clear h
  obtain ⟨A, n, c⟩ := O
  simp only at c0 hOn hOc hO
  have HC := Lib.hid hcs
  clear hcs
  subst hOn
  go_upto_region 1 with fail
  have hs0 : StAt (w.alloc (.cells cs 29)) w.heap.size cs := StAt.new _ _
  have hb0 : Below w.heap.size w (w.alloc (.cells cs 29)) := (Below.refl _ _).alloc (Nat.le_refl _) _
  obtain ⟨w1, hw1⟩ : ∃ w1, w1 = w.alloc (.cells cs 29) := ⟨_, rfl⟩
  rw [← hw1] at hs0 hb0 ⊢
  clear hw1
  have c1 := (hs0.cell 0).trans c0
  clear c1 c0
  by_cases hz : 0 ≤ z ∧ z < 11
  case neg =>
    have hf : (decide (0 ≤ z) && decide (z < 11)) = false := by rw [Bool.eq_false_iff]; intro h; simp at h; omega
    have hb : topB s z = false := by rw [topB, hf, Bool.false_and]
    have hx : topX s z = 0 := if_neg (by rw [hb]; simp)
    obtain rfl := HQ.out.trans hx
    obtain rfl := HR.out.trans hb
    rw [hf] at hl
    clear hf hz hb hx
    go_wp2_with fail
    refine (hl _).mono ?_
    rintro e w2 ⟨rfl, rfl⟩
    clear hl
    go_wp2_with fail
    go_ret2
    exact ⟨rfl, hb0⟩
  obtain ⟨y, rfl⟩ : ∃ y : Nat, z = (y : Int) := ⟨z.toNat, by omega⟩
  have hy : y < 11 := by omega
  rw [show (decide (0 ≤ (y : Int)) && decide ((y : Int) < 11)) = true by simp; omega] at hl
  obtain ⟨A2, n2, c2, hc2, hnc2, hN⟩ := H.out.at_list hy
  have hc2 := (hs0.cell (1 + y)).trans hc2
  have hln := hN.len
  have hnm : n2 ≤ 1000000 := hln ▸ hll y hy
  have HN := Lib.hid hN
  clear hN hz
  by_cases hn0 : n2 = 0
  · subst hn0
    have hb : topB s y = false := by simp [topB, hln]
    have hx : topX s y = 0 := if_neg (by rw [hb]; simp)
    obtain rfl := HQ.out.trans hx
    obtain rfl := HR.out.trans hb
    clear hb hx
    go_wp2_with fail
    refine (hl _).mono ?_
    rintro e w2 ⟨rfl, rfl⟩
    clear hl
    go_wp2_with fail
    go_ret2
    exact ⟨rfl, hb0⟩
  have hb : topB s y = true := by simp [topB, hln]; omega
  obtain ⟨a, rfl, hab, hca⟩ := HN.out.at_ (i := n2 - 1) (by omega)
  replace hca := (hb0.cell (by rw [addr_block]; omega)).trans hca
  have hx : topX s y = (s.lists y).getD (n2 - 1) 0 := by rw [topX, if_pos hb, Int.toNat_natCast, hln]
  have hg : (s.lists y).getD (n2 - 1) 0 = (s.lists y)[n2 - 1]'(by omega) := by rw [List.getD_eq_getElem?_getD, List.getElem?_eq_getElem (by omega)]; rfl
  rw [← hg, ← hx, ← HQ.out] at hca
  obtain rfl := HR.out.trans hb
  obtain ⟨m, rfl⟩ : ∃ m, n2 = m + 1 := ⟨n2 - 1, by omega⟩
  rw [Nat.add_sub_cancel] at hca
  have d1 : (((m + 1 : Nat) : Int) == 0) = false := by simp; omega
  have d2 : ((m + 1 : Nat) : Int) - 1 = (m : Int) := by omega
  clear hn0 hb hx hg
  go_wp2_with fail
  refine (hl _).mono ?_
  rintro e w2 ⟨rfl, rfl⟩
  clear hl
  go_wp2_with fail
  go_ret2
  exact ⟨rfl, hb0⟩
end Go.Proofs.Ythedopnhhanknaa
