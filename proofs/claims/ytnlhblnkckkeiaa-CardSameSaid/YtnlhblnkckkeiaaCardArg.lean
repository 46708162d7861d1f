/- Layer 7: an argument that is a card, opened. -/
import Derived.Test.YtnlhblnkckkeiaaCard
import Derived.Test.YtnlhblnkckkeiaaTreeArg
namespace Go.Proofs.Ytnlhblnkckkeiaa
open Go.ChangeShapes Go.WideShapes Go.RowKit Ex Mx
theorem cellsCost : Try.prog.cellsOf 23 = 6 := by kernel_rfl
theorem cellsBool : Try.prog.cellsOf 4 = 1 := by kernel_rfl
theorem cellsAb : Try.prog.cellsOf 44 = 14 := by kernel_rfl
theorem cellsCd : Try.prog.cellsOf 26 = 13 := by kernel_rfl
theorem cellsAbs : Try.prog.cellsOf 24 = 1 := by kernel_rfl
theorem ReadsA.deeper {B d d' : Nat} {w : World} {cs : Array Value} {a : AbT} (hd : d ≤ d') (h : ReadsA B w d cs a) : ReadsA B w d' cs a := by
  obtain ⟨h1, h2, h3, xs, e, hr⟩ := h
  exact ⟨h1, h2, h3, xs, e, hr.deeper hd⟩
section
variable {H : Type} {enc : TypeId × Value → H} {W : World}
theorem trod_cost {fuel : Nat} {cs : List Value} {x : DataW H × List MemPlace} (h : DataW.trod enc Try.prog W 0 (fun _ => true) true fuel 23 cs = some x) : ∃ f : Nat → Int, cs = (arr .i64 6 f).toList ∧ Wide f := by
  obtain ⟨xs, n, _, _, hl, hlen, hx⟩ := DataW.trod_array Try.underlying23 h
  rw [cellsCost] at hl
  obtain ⟨a0, a1, a2, a3, a4, a5, rfl⟩ : ∃ a0 a1 a2 a3 a4 a5, cs = [a0, a1, a2, a3, a4, a5] := by
    match cs, hl with
    | [a0, a1, a2, a3, a4, a5], _ => exact ⟨_, _, _, _, _, _, rfl⟩
  have one : ∀ i a, i < 6 → (([a0, a1, a2, a3, a4, a5] : List Value).drop i).take 1 = [a] → ∃ z : Int, a = .int .i64 z ∧ (Lit.int .i64 z).wf = true := fun i a hi ha => by
    have h1 := hx i hi
    rw [cells_int, Nat.mul_one, ha, List.getElem?_eq_getElem (by omega)] at h1
    obtain ⟨z, hz, _, hw⟩ := DataW.trod_int Try.underlying3 h1
    exact ⟨z, by simpa using hz, hw⟩
  obtain ⟨z0, rfl, w0⟩ := one 0 a0 (by omega) rfl
  obtain ⟨z1, rfl, w1⟩ := one 1 a1 (by omega) rfl
  obtain ⟨z2, rfl, w2⟩ := one 2 a2 (by omega) rfl
  obtain ⟨z3, rfl, w3⟩ := one 3 a3 (by omega) rfl
  obtain ⟨z4, rfl, w4⟩ := one 4 a4 (by omega) rfl
  obtain ⟨z5, rfl, w5⟩ := one 5 a5 (by omega) rfl
  refine ⟨fun i => [z0, z1, z2, z3, z4, z5].getD i 0, by rw [show arr .i64 6 (fun i => [z0, z1, z2, z3, z4, z5].getD i 0) = #[.int .i64 z0, .int .i64 z1, .int .i64 z2, .int .i64 z3, .int .i64 z4, .int .i64 z5] from arr_list .i64 [z0, z1, z2, z3, z4, z5]], all6 (i64_of_wf w0) (i64_of_wf w1) (i64_of_wf w2) (i64_of_wf w3) (i64_of_wf w4) (i64_of_wf w5)⟩
theorem reads_ab : ∀ (fuel : Nat) (cs : List Value) (x : DataW H × List MemPlace), DataW.trod enc Try.prog W 0 (fun _ => true) true fuel 44 cs = some x → ∃ a, ReadsA W.heap.size W fuel cs.toArray a := by
    intro fuel cs x h
    obtain ⟨xs, n, rfl, _, hlen, hlen', hf⟩ := DataW.trod_struct Try.underlying44 h
    have e5 : xs.length = 5 := hlen'
    have part : ∀ i, i < 5 → ∃ y, xs[i]? = some y := fun i hi => ⟨_, List.getElem?_eq_getElem (by omega)⟩
    obtain ⟨y0, hy0⟩ := part 0 (by omega)
    obtain ⟨y1, hy1⟩ := part 1 (by omega)
    obtain ⟨y2, hy2⟩ := part 2 (by omega)
    obtain ⟨y3, hy3⟩ := part 3 (by omega)
    obtain ⟨y4, hy4⟩ := part 4 (by omega)
    have f0 : DataW.trod enc Try.prog W 0 (fun _ => true) true n 3 ((cs.drop 0).take (Try.prog.cellsOf 3)) = some y0 := (hf 0 _ rfl).trans hy0
    have f1 : DataW.trod enc Try.prog W 0 (fun _ => true) true n 23 ((cs.drop 1).take (Try.prog.cellsOf 23)) = some y1 := (hf 1 _ rfl).trans hy1
    have f2 : DataW.trod enc Try.prog W 0 (fun _ => true) true n 4 ((cs.drop 7).take (Try.prog.cellsOf 4)) = some y2 := (hf 2 _ rfl).trans hy2
    have f3 : DataW.trod enc Try.prog W 0 (fun _ => true) true n 3 ((cs.drop 8).take (Try.prog.cellsOf 3)) = some y3 := (hf 3 _ rfl).trans hy3
    have f4 : DataW.trod enc Try.prog W 0 (fun _ => true) true n 42 ((cs.drop 9).take (Try.prog.cellsOf 42)) = some y4 := (hf 4 _ rfl).trans hy4
    rw [cellsAb] at hlen
    obtain ⟨a0, a1, a2, a3, a4, a5, a6, a7, a8, a9, a10, a11, a12, a13, rfl⟩ : ∃ a0 a1 a2 a3 a4 a5 a6 a7 a8 a9 a10 a11 a12 a13, cs = [a0, a1, a2, a3, a4, a5, a6, a7, a8, a9, a10, a11, a12, a13] := by
      match cs, hlen with
      | [a0, a1, a2, a3, a4, a5, a6, a7, a8, a9, a10, a11, a12, a13], _ => exact ⟨_, _, _, _, _, _, _, _, _, _, _, _, _, _, rfl⟩
    rw [cells_int] at f0 f3
    rw [cellsBool] at f2
    rw [cellsCost] at f1
    rw [cells5] at f4
    simp only [List.drop_succ_cons, List.drop_zero, List.take_succ_cons, List.take_zero] at f0 f1 f2 f3 f4
    obtain ⟨wh, g0, _, w0⟩ := DataW.trod_int Try.underlying3 f0
    obtain ⟨f, g1, wf⟩ := trod_cost f1
    obtain ⟨tp, g2, _⟩ := DataW.trod_bool Try.underlying4 f2
    obtain ⟨tg, g3, _, w3⟩ := DataW.trod_int Try.underlying3 f3
    obtain ⟨t, ht⟩ := reads_of n _ _ f4
    have g1' : arr .i64 6 f = #[a1, a2, a3, a4, a5, a6] := Array.toList_inj.1 g1.symm
    simp at g0 g2 g3
    subst g0; subst g2; subst g3
    refine ⟨⟨wh, f, tp, tg, t⟩, in64_of_wf w0, wf, in64_of_wf w3, _, ?_, ht.deeper (by omega)⟩
    show _ = #[.int .i64 wh] ++ arr .i64 6 f ++ #[.bool tp, .int .i64 tg] ++ #[a9, a10, a11, a12, a13]
    rw [g1']
    rfl
theorem reads_cd (fuel : Nat) (cs : List Value) (x : DataW H × List MemPlace) (h : DataW.trod enc Try.prog W 0 (fun _ => true) true fuel 26 cs = some x) : ∃ c, ReadsC W.heap.size W fuel cs.toArray c := by
    obtain ⟨xs, n, rfl, _, hlen, hlen', hf⟩ := DataW.trod_struct Try.underlying26 h
    have e5 : xs.length = 8 := hlen'
    have part : ∀ i, i < 8 → ∃ y, xs[i]? = some y := fun i hi => ⟨_, List.getElem?_eq_getElem (by omega)⟩
    obtain ⟨y0, hy0⟩ := part 0 (by omega)
    obtain ⟨y1, hy1⟩ := part 1 (by omega)
    obtain ⟨y2, hy2⟩ := part 2 (by omega)
    obtain ⟨y3, hy3⟩ := part 3 (by omega)
    obtain ⟨y4, hy4⟩ := part 4 (by omega)
    obtain ⟨y5, hy5⟩ := part 5 (by omega)
    obtain ⟨y6, hy6⟩ := part 6 (by omega)
    obtain ⟨y7, hy7⟩ := part 7 (by omega)
    have f0 : DataW.trod enc Try.prog W 0 (fun _ => true) true n 3 ((cs.drop 0).take (Try.prog.cellsOf 3)) = some y0 := (hf 0 _ rfl).trans hy0
    have f1 : DataW.trod enc Try.prog W 0 (fun _ => true) true n 3 ((cs.drop 1).take (Try.prog.cellsOf 3)) = some y1 := (hf 1 _ rfl).trans hy1
    have f2 : DataW.trod enc Try.prog W 0 (fun _ => true) true n 4 ((cs.drop 2).take (Try.prog.cellsOf 4)) = some y2 := (hf 2 _ rfl).trans hy2
    have f3 : DataW.trod enc Try.prog W 0 (fun _ => true) true n 23 ((cs.drop 3).take (Try.prog.cellsOf 23)) = some y3 := (hf 3 _ rfl).trans hy3
    have f4 : DataW.trod enc Try.prog W 0 (fun _ => true) true n 3 ((cs.drop 9).take (Try.prog.cellsOf 3)) = some y4 := (hf 4 _ rfl).trans hy4
    have f5 : DataW.trod enc Try.prog W 0 (fun _ => true) true n 3 ((cs.drop 10).take (Try.prog.cellsOf 3)) = some y5 := (hf 5 _ rfl).trans hy5
    have f6 : DataW.trod enc Try.prog W 0 (fun _ => true) true n 3 ((cs.drop 11).take (Try.prog.cellsOf 3)) = some y6 := (hf 6 _ rfl).trans hy6
    have f7 : DataW.trod enc Try.prog W 0 (fun _ => true) true n 24 ((cs.drop 12).take (Try.prog.cellsOf 24)) = some y7 := (hf 7 _ rfl).trans hy7
    rw [cellsCd] at hlen
    obtain ⟨a0, a1, a2, a3, a4, a5, a6, a7, a8, a9, a10, a11, a12, rfl⟩ : ∃ a0 a1 a2 a3 a4 a5 a6 a7 a8 a9 a10 a11 a12, cs = [a0, a1, a2, a3, a4, a5, a6, a7, a8, a9, a10, a11, a12] := by
      match cs, hlen with
      | [a0, a1, a2, a3, a4, a5, a6, a7, a8, a9, a10, a11, a12], _ => exact ⟨_, _, _, _, _, _, _, _, _, _, _, _, _, rfl⟩
    rw [cells_int] at f0 f1 f4 f5 f6
    rw [cellsBool] at f2
    rw [cellsCost] at f3
    rw [cellsAbs] at f7
    simp only [List.drop_succ_cons, List.drop_zero, List.take_succ_cons, List.take_zero] at f0 f1 f2 f3 f4 f5 f6 f7
    obtain ⟨kd, g0, _, w0⟩ := DataW.trod_int Try.underlying3 f0
    obtain ⟨cl, g1, _, w1⟩ := DataW.trod_int Try.underlying3 f1
    obtain ⟨fs, g2, _⟩ := DataW.trod_bool Try.underlying4 f2
    obtain ⟨f, g3, wf⟩ := trod_cost f3
    obtain ⟨pw, g4, _, w4⟩ := DataW.trod_int Try.underlying3 f4
    obtain ⟨tg, g5, _, w5⟩ := DataW.trod_int Try.underlying3 f5
    obtain ⟨sy, g6, _, w6⟩ := DataW.trod_int Try.underlying3 f6
    have g3' : arr .i64 6 f = #[a3, a4, a5, a6, a7, a8] := Array.toList_inj.1 g3.symm
    simp at g0 g1 g2 g4 g5 g6
    subst g0; subst g1; subst g2; subst g4; subst g5; subst g6
    have build : ∀ (A : Option Addr) (l : List AbT) (cc : Nat), a12 = .slice A l.length cc → l.length ≤ cc → cc ≤ maxLen → RdA W.heap.size W (n + 1) A l → ∃ c, ReadsC W.heap.size W (n + 1) #[.int .i64 kd, .int .i64 cl, .bool fs, a3, a4, a5, a6, a7, a8, .int .i64 pw, .int .i64 tg, .int .i64 sy, a12] c := fun A l cc e h1 h2 h3 => by
      refine ⟨⟨kd, cl, fs, f, pw, tg, sy, l⟩, in64_of_wf w0, in64_of_wf w1, wf, in64_of_wf w4, in64_of_wf w5, in64_of_wf w6, A, cc, ?_, h1, h2, h3⟩
      show _ = #[.int .i64 kd, .int .i64 cl, .bool fs] ++ arr .i64 6 f ++ #[.int .i64 pw, .int .i64 tg, .int .i64 sy, .slice A l.length cc]
      rw [g3', ← e]
      rfl
    rcases DataW.trod_slice Try.underlying24 f7 with ⟨g7, _⟩ | ⟨a, len, cap, elems, rest, n2, rfl, g7, _, _, hl, hm, hel, hev, _⟩
    · simp at g7
      exact build none [] 0 g7 (by simp) (by unfold maxLen; omega) (fun i t hi => by simp at hi)
    · simp at g7
      have first : 0 < len → a.spot = none := fun h0 => by
        have h1 := hev 0 h0
        rw [List.getElem?_eq_getElem (by omega), cellsAb] at h1
        cases hc : W.cells? 0 (a.add (0 * 14)) 14 with
        | none => rw [hc] at h1; simp at h1
        | some cs' =>
          obtain ⟨_, hl5, hcell⟩ := World.cells?_some hc
          have h2 := hcell 0 (by omega)
          rw [List.getElem?_eq_getElem (by omega), Nat.zero_mul] at h2
          exact spot_none (a := a) h2
      have each : ∀ i, i < len → ∃ t, ∃ b o xs, a = ⟨b, o, none⟩ ∧ b < W.heap.size ∧ W.rangeAt b (o + i * 14) xs.toList ∧ ReadsA W.heap.size W (n2 + 1) xs t := by
        intro i hi
        have h1 := hev i hi
        rw [List.getElem?_eq_getElem (by omega), cellsAb] at h1
        cases hc : W.cells? 0 (a.add (i * 14)) 14 with
        | none => rw [hc] at h1; simp at h1
        | some cs' =>
          rw [hc] at h1
          simp only [Option.bind_some] at h1
          obtain ⟨t, ht⟩ := reads_ab n2 cs' _ h1
          obtain ⟨_, hl5, hcell⟩ := World.cells?_some hc
          have hat : ∀ j, j < 14 → W.cell? ((a.add (i * 14)).add j) = cs'[j]? := hcell
          have hsp := first (by omega)
          obtain ⟨b, o, sp⟩ := a
          simp only at hsp
          subst hsp
          have hat2 : ∀ j, j < 14 → W.cell? ⟨b, o + i * 14 + j, none⟩ = cs'[j]? := fun j hj => by
            have h := hat j hj
            rw [Addr.add_mid, Addr.add_mid] at h
            exact h
          have hv0 : W.cell? ⟨b, o + i * 14 + 0, none⟩ = some cs'[0] := by rw [hat2 0 (by omega)]; exact List.getElem?_eq_getElem (by omega)
          refine ⟨t, b, o, cs'.toArray, rfl, World.block_lt_of_cell? W _ hv0, fun j v hv => ?_, ht.deeper (by omega)⟩
          have hv' : cs'[j]? = some v := by simpa using hv
          have hj : j < cs'.length := (List.getElem?_eq_some_iff.1 hv').1
          rw [hat2 j (by omega)]; exact hv'
      obtain ⟨l, hll, hlp⟩ := list_of len each
      subst hll
      exact build (some a) l cap g7 hl hm (fun i t hi => by
        obtain ⟨b, o, xs, h1, h2, h3, h4⟩ := hlp i t hi
        exact ⟨b, o, xs, by rw [h1], h2, h3, h4.deeper (by omega)⟩)
theorem open_card {base : Nat} {v : Value} {dd : DataW H} {p : List MemPlace} (hv : Value.okWide Try.prog W .any base 26 v) (h : DataW.Trod enc Try.prog W 0 (fun _ => true) true 26 v dd p) :
    ∃ d c cs, v = .agg cs ∧ ReadsC W.heap.size W d cs c := by
  obtain ⟨cs, rfl, _⟩ := okWide_struct Try.underlying26 hv
  obtain ⟨fuel, hf⟩ := h
  obtain ⟨t, ht⟩ := reads_cd fuel _ _ hf
  exact ⟨fuel, t, cs, rfl, by simpa [Value.cells] using ht⟩
end
end Go.Proofs.Ytnlhblnkckkeiaa
