/- Layer 9: the library's Grow of the nil list, and Concat. -/
import Derived.Test.YtcnfpjghjdmefaaLstC1
import Derived.Lib.AppendZerosOnto
namespace Go.Proofs.Ytcnfpjghjdmefaa
open Go.RowKit Ex
set_option maxRecDepth 100000
set_option maxHeartbeats 4000000 in
theorem grow_nil (n : Nat) (w : World) (hn : n ≤ 1000000) : Calls Try.prog 31 #[.slice none 0 0, .int .i64 (n : Int)] w fun e w' => ∃ A c, e = .returned (.slice A 0 c) ∧ OB w A 0 c [] w' := by
  obtain ⟨i0, hi, hz0, hz1, hz2⟩ := info_parts info_int
  have h1 : decide ((n : Int) < 0) = false := by simp
  by_cases h0 : n = 0
  · subst h0
    go_enter Try.func31, Try.ntmps31
    go_wp2_with fail
    go_ret
    exact ⟨_, _, rfl, Own.nil _, Below.refl _ _⟩
  · have h2 : decide (0 < (n : Int)) = true := by simp; omega
    have hrz : ∀ ty, (Builtin.append_ #[22, 3] ty #[.slice none 0 0, .int .i64 (n : Int)]).run Try.prog w =
        .ok (.slice (some ⟨w.heap.size, 0, none⟩) n (grownCap w n 0 3)) (w.drew.alloc (.cells (#[] ++ Builtin.zeroCells (Value.int .i64 0).cells n ++ Builtin.zeroCells (Value.int .i64 0).cells (grownCap w n 0 3 - n)) 3)) := fun ty => by
      have h := Lib.run_append_grow_zeros w 22 3 ty 3 i0 (.int .i64 0) .i64 .i64 Try.underlying22 Try.underlying3 hi hz0 none 0 0 [] (run_firstCells_none w.drew i0.size 0 0 0) n (by omega) (by omega) (by omega) (by omega) (by rw [hz2]; omega)
        (by rw [Nat.zero_add]; exact growslice_fits (by omega) (by rw [hz2]; omega))
      rw [Nat.zero_add] at h
      exact h
    have hGn : n ≤ grownCap w n 0 3 := grownCap_ge w _ _ _
    have hGm : grownCap w n 0 3 ≤ maxLen := grownCap_le_maxLen w n 0 3 (by unfold maxLen; omega)
    obtain ⟨G, hG⟩ : ∃ G, G = grownCap w n 0 3 := ⟨_, rfl⟩
    rw [← hG] at hrz hGn hGm
    clear hG
    obtain ⟨cs, hcs⟩ : ∃ cs, cs = (#[] ++ Builtin.zeroCells (Value.int .i64 0).cells n ++ Builtin.zeroCells (Value.int .i64 0).cells (G - n)) := ⟨_, rfl⟩
    rw [← hcs] at hrz
    have hsz : cs.size = G * 1 := by rw [hcs]; simp [Builtin.zeroCells, Value.cells]; omega
    have hfin : OB w (some ⟨w.heap.size, 0, none⟩) 0 G [] (w.drew.alloc (.cells cs 3)) :=
      ⟨⟨rfl, World.ownsRow_made w.drew cs G (Nat.le_refl _) hGm hsz⟩, ((Below.refl _ _).drew).alloc (Nat.le_refl _) _⟩
    clear hcs hsz
    go_enter Try.func31, Try.ntmps31
    go_wp2_with (at_builtin; refine Lib.wpList_append_run _ rfl _ _ _ _ rfl _ _ rfl rfl _ _ (hrz _) ?_)
    go_ret
    exact ⟨_, _, rfl, hfin⟩
/-- A part of what is laid together: a slice, and the list that it reads as. -/
structure Part where
  A : Option Addr
  n : Nat
  c : Nat
  l : List Int
def catP (ps : List Part) : List Int := ps.flatMap Part.l
theorem catP_step {ps : List Part} {k : Nat} {p : Part} (h : ps[k]? = some p) : catP (ps.take (k + 1)) = catP (ps.take k) ++ p.l := by
  unfold catP
  rw [List.take_add_one, h, List.flatMap_append]
  simp
theorem catP_le (ps : List Part) (k : Nat) : (catP (ps.take k)).length ≤ (catP ps).length := by
  have h : catP ps = catP (ps.take k) ++ catP (ps.drop k) := by unfold catP; rw [← List.flatMap_append, List.take_append_drop]
  rw [h, List.length_append]; omega
/-- The row of slices at block g. -/
def Parts (w : World) (g : Nat) (ps : List Part) : Prop := g < w.heap.size ∧ ∀ i p, ps[i]? = some p → w.cell? ⟨g, i, none⟩ = some (.slice p.A p.n p.c) ∧ Nums .i64 w w.heap.size p.A p.n p.l
theorem Parts.keep {w w' : World} {g : Nat} {ps : List Part} (h : Parts w g ps) (hb : Below w.heap.size w w') : Parts w' g ps :=
  ⟨Nat.lt_of_lt_of_le h.1 hb.size, fun i p hi => ⟨(hb.cell h.1).trans (h.2 i p hi).1, ((h.2 i p hi).2.below hb).more hb.size⟩⟩
set_option maxHeartbeats 1000000 in
theorem concat_any (g m c : Nat) (ps : List Part) (w : World) (hP : Parts w g ps) (hm : ps.length = m) (hm8 : m ≤ 1000) (hlen : (catP ps).length ≤ 1000000) :
    Calls Try.prog 22 #[.slice (some ⟨g, 0, none⟩) m c] w (OwnQ (catP ps) w) := by
  have HP := Lib.hid hP
  clear hP
  go_enter Try.func22, Try.ntmps22
  go_upto_region 3 with fail
  go_loopw [3, 11] (fun s i wr => ∃ k : Nat, i = .int .i64 ((k : Nat) : Int) ∧ s = .int .i64 (((catP (ps.take k)).length : Nat) : Int) ∧ k ≤ m ∧ wr = w) (fun _ i _ => m - (intOf i).toNat)
  case atStart => exact ⟨0, rfl, by simp [catP], by omega, rfl⟩
  case round =>
    obtain ⟨k, rfl, rfl, hk, hwr⟩ := hrel
    subst wr
    by_cases hlt : k < m
    · have hd : decide ((k : Int) < (m : Int)) = true := by simp; omega
      obtain ⟨p, hp⟩ : ∃ p, ps[k]? = some p := ⟨_, List.getElem?_eq_getElem (by omega)⟩
      obtain ⟨hc, hN⟩ := HP.out.2 k p hp
      have hst := congrArg List.length (catP_step hp)
      rw [List.length_append, hN.len] at hst
      have hle := catP_le ps (k + 1)
      have hle2 : (catP (ps.take (k + 1))).length ≤ 1000000 := by omega
      obtain ⟨s, hs⟩ : ∃ s, s = (catP (ps.take k)).length := ⟨_, rfl⟩
      obtain ⟨s2, hs2⟩ : ∃ s2, s2 = (catP (ps.take (k + 1))).length := ⟨_, rfl⟩
      obtain ⟨A1, n1, c1, l1⟩ := p
      simp only at hc hst hN
      rw [← hs, ← hs2] at hst
      rw [← hs2] at hle2
      rw [← hs]
      have HS := Lib.hid hs2
      have HT := Lib.hid (show (s : Int) + (n1 : Int) = (s2 : Int) by omega)
      have g0 : (0 : Int) ≤ (k : Int) := by omega
      have g1 : (k : Int) < (m : Int) := by omega
      have e1 : IntKind.i64.wrap ((s : Int) + (n1 : Int)) = (s2 : Int) := by rw [HT.out]; exact i64_in (by omega) (by omega)
      have d1 : decide ((s2 : Int) < 0) = false := by simp
      clear hs hs2 hst hp hN hle
      go_wp2_with fail
      go_roundw
      case rel => exact ⟨k + 1, by go_num, by rw [← HS.out], by omega, by trivial⟩
      case measure => simp [intOf]; omega
    · obtain rfl : k = m := by omega
      have hd : decide ((k : Int) < (k : Int)) = false := by simp
      have hfull : catP (ps.take k) = catP ps := by rw [← hm, List.take_length]
      rw [hfull]
      obtain ⟨s, hs⟩ : ∃ s, s = (catP ps).length := ⟨_, rfl⟩
      rw [← hs] at hlen
      rw [← hs]
      have HS := Lib.hid hs
      clear hs hfull
      have hgn := grow_nil s w hlen
      go_wp2_with fail
      refine hgn.mono ?_
      rintro e w1 ⟨A1, c1, rfl, hO1⟩
      clear hgn
      go_upto_region 11 with fail
      clear hd
      go_loopw [6, 27] (fun o i wx => ∃ (j m2 cc : Nat) (A' : Option Addr), i = .int .i64 ((j : Nat) : Int) ∧ o = .slice A' m2 cc ∧ j ≤ k ∧ OB w A' m2 cc (catP (ps.take j)) wx) (fun _ i _ => k - (intOf i).toNat)
      case atStart => exact ⟨0, 0, _, _, rfl, rfl, by omega, by simpa [catP] using hO1⟩
      case round =>
        obtain ⟨j, m2, cc, A4, rfl, rfl, hj, hO⟩ := hrel
        have HO := Lib.hid hO
        have hO1 := 0
        by_cases hlt2 : j < k
        · have hd : decide ((j : Int) < (k : Int)) = true := by simp; omega
          obtain ⟨p, hp⟩ : ∃ p, ps[j]? = some p := ⟨_, List.getElem?_eq_getElem (by omega)⟩
          have hst := catP_step hp
          have hle := catP_le ps (j + 1)
          obtain ⟨A2, n2, c2, l2⟩ := p
          obtain ⟨hc0, hN0⟩ := HP.out.2 j _ hp
          have hc := (hO.b.cell (show g < w.heap.size from HP.out.1)).trans hc0
          have hN := hN0.below hO.b
          simp only at hc hst hN
          have hlo := hO.own.len
          have hln := hN.len
          have hsum : m2 + n2 ≤ 1000000 := by rw [hst, List.length_append] at hle; have := HS.out; omega
          have HST := Lib.hid hst
          have g0 : (0 : Int) ≤ (j : Int) := by omega
          have g1 : (j : Int) < (k : Int) := by omega
          obtain ⟨i0, hi, hz0, hz1, hz2⟩ := info_parts info_int
          clear hst hp hN0 hc0 hle
          have hbs := hO.b.size
          go_wp2_with (at_builtin; refine wpList_app rfl _ _ _ rfl .i64 w.heap.size 3 i0 _ 8 Try.underlying22 hi hz0 hz1 hz2 rfl A4 m2 cc _ rfl hO.own _ A2 n2 c2 l2 rfl hN (by omega) (by omega) hbs ?_; intro A5 c5 w5 ho5 hg5)
          have hO5 : OB w A5 (m2 + n2) c5 (catP (ps.take (j + 1))) w5 := by rw [HST.out]; exact ⟨ho5, HO.out.own.belowGrown HO.out.b hbs hg5⟩
          go_roundw
          case rel => exact ⟨j + 1, _, _, _, by go_num, rfl, by omega, hO5⟩
          case measure => simp [intOf]; omega
        · obtain rfl : j = k := by omega
          have hd : decide ((j : Int) < (j : Int)) = false := by simp
          have HE := Lib.hid (show catP (ps.take j) = catP ps by rw [← hm, List.take_length])
          go_wp2_with fail
          go_ret
          rw [← HE.out]
          exact ⟨_, _, _, rfl, HO.out.own, HO.out.b⟩
end Go.Proofs.Ytcnfpjghjdmefaa
