/- Layer 6: an argument that is an effect, opened. -/
import Derived.Test.YtnlhblnkckkeiaaTreeBase
import Derived.Test.YtnlhblnkckkeiaaSlArg
import Derived.OpenShut
namespace Go.Proofs.Ytnlhblnkckkeiaa
open Go.ChangeShapes Go.WideShapes Go.RowKit Ex
theorem Reads.deeper {B : Nat} {w : World} : ∀ {d d' : Nat} {cs : Array Value} {t : ET}, d ≤ d' → Reads B w d cs t → Reads B w d' cs t
  | 0, _, _, _, _, h => absurd h id
  | d + 1, 0, _, _, hd, _ => absurd hd (by omega)
  | d + 1, d' + 1, cs, .node op n m who l, hd, h => by
    obtain ⟨h1, h2, h3, h4, A, c, e, hl, hc, hx⟩ := h
    refine ⟨h1, h2, h3, h4, A, c, e, hl, hc, fun i t hi => ?_⟩
    obtain ⟨b, o, xs, hA, hb, hra, hrx⟩ := hx i t hi
    exact ⟨b, o, xs, hA, hb, hra, hrx.deeper (by omega)⟩
theorem list_of {α : Type} {P : Nat → α → Prop} : ∀ n, (∀ i, i < n → ∃ t, P i t) → ∃ l : List α, l.length = n ∧ ∀ i t, l[i]? = some t → P i t
  | 0, _ => ⟨[], rfl, fun i t h => by simp at h⟩
  | n + 1, h => by
    obtain ⟨l, hl, hp⟩ := list_of n (fun i hi => h i (by omega))
    obtain ⟨t, ht⟩ := h n (by omega)
    refine ⟨l ++ [t], by simp [hl], fun i u hi => ?_⟩
    by_cases e : i < n
    · rw [List.getElem?_append_left (by omega)] at hi; exact hp i u hi
    · rw [List.getElem?_append_right (by omega)] at hi
      by_cases e2 : i = n
      · subst e2
        rw [hl, Nat.sub_self] at hi
        simp at hi; subst hi; exact ht
      · have : i - l.length = (i - l.length - 1) + 1 := by omega
        rw [this] at hi; simp at hi
theorem spot_none {w : World} {a : Addr} {v : Value} (h : w.cell? a = some v) : a.spot = none := by
  unfold World.cell? at h
  split at h
  · split at h
    · cases h
    · rename_i hs
      cases e : a.spot with
      | none => rfl
      | some q => rw [e] at hs; simp at hs
  · cases h
theorem in64_of_wf {x : Int} (h : (Lit.int .i64 x).wf = true) : In64 x := i64_of_wf h
theorem cellsSubs : Try.prog.cellsOf 40 = 1 := by kernel_rfl
section
variable {H : Type} {enc : TypeId × Value → H} {W : World}
theorem reads_of : ∀ (fuel : Nat) (cs : List Value) (x : DataW H × List MemPlace), DataW.trod enc Try.prog W 0 (fun _ => true) true fuel 42 cs = some x → ∃ t, Reads W.heap.size W fuel cs.toArray t := by
  intro fuel
  induction fuel using Nat.strongRecOn with
  | _ fuel ih =>
    intro cs x h
    obtain ⟨xs, n, rfl, _, hlen, hlen', hf⟩ := DataW.trod_struct Try.underlying42 h
    have e5 : xs.length = 5 := hlen'
    have part : ∀ i, i < 5 → ∃ y, xs[i]? = some y := fun i hi => ⟨_, List.getElem?_eq_getElem (by omega)⟩
    obtain ⟨y0, hy0⟩ := part 0 (by omega)
    obtain ⟨y1, hy1⟩ := part 1 (by omega)
    obtain ⟨y2, hy2⟩ := part 2 (by omega)
    obtain ⟨y3, hy3⟩ := part 3 (by omega)
    obtain ⟨y4, hy4⟩ := part 4 (by omega)
    have f0 : DataW.trod enc Try.prog W 0 (fun _ => true) true n 3 ((cs.drop 0).take (Try.prog.cellsOf 3)) = some y0 := (hf 0 _ rfl).trans hy0
    have f1 : DataW.trod enc Try.prog W 0 (fun _ => true) true n 3 ((cs.drop 1).take (Try.prog.cellsOf 3)) = some y1 := (hf 1 _ rfl).trans hy1
    have f2 : DataW.trod enc Try.prog W 0 (fun _ => true) true n 3 ((cs.drop 2).take (Try.prog.cellsOf 3)) = some y2 := (hf 2 _ rfl).trans hy2
    have f3 : DataW.trod enc Try.prog W 0 (fun _ => true) true n 3 ((cs.drop 3).take (Try.prog.cellsOf 3)) = some y3 := (hf 3 _ rfl).trans hy3
    have f4 : DataW.trod enc Try.prog W 0 (fun _ => true) true n 40 ((cs.drop 4).take (Try.prog.cellsOf 40)) = some y4 := (hf 4 _ rfl).trans hy4
    rw [cells_int] at f0 f1 f2 f3
    rw [cellsSubs] at f4
    rw [cells5] at hlen
    obtain ⟨a0, a1, a2, a3, a4, rfl⟩ : ∃ a0 a1 a2 a3 a4, cs = [a0, a1, a2, a3, a4] := by
      match cs, hlen with
      | [a0, a1, a2, a3, a4], _ => exact ⟨_, _, _, _, _, rfl⟩
    obtain ⟨op, g0, _, w0⟩ := DataW.trod_int Try.underlying3 f0
    obtain ⟨nn, g1, _, w1⟩ := DataW.trod_int Try.underlying3 f1
    obtain ⟨m, g2, _, w2⟩ := DataW.trod_int Try.underlying3 f2
    obtain ⟨who, g3, _, w3⟩ := DataW.trod_int Try.underlying3 f3
    simp at g0 g1 g2 g3
    subst g0; subst g1; subst g2; subst g3
    simp only [List.drop_succ_cons, List.drop_zero, List.take_succ_cons, List.take_zero] at f4
    rcases DataW.trod_slice Try.underlying40 f4 with ⟨g4, _⟩ | ⟨a, len, cap, elems, rest, n2, rfl, g4, _, _, hl, hm, hel, hev, _⟩
    · simp at g4
      subst g4
      exact ⟨.node op nn m who [], in64_of_wf w0, in64_of_wf w1, in64_of_wf w2, in64_of_wf w3, none, 0, rfl, by simp, by unfold maxLen; omega, fun i t hi => by simp at hi⟩
    · simp at g4
      subst g4
      have first : 0 < len → a.spot = none := fun h0 => by
        have h1 := hev 0 h0
        rw [List.getElem?_eq_getElem (by omega), cells5] at h1
        cases hc : W.cells? 0 (a.add (0 * 5)) 5 with
        | none => rw [hc] at h1; simp at h1
        | some cs' =>
          obtain ⟨_, hl5, hcell⟩ := World.cells?_some hc
          have h2 := hcell 0 (by omega)
          rw [List.getElem?_eq_getElem (by omega), Nat.zero_mul] at h2
          exact spot_none (a := a) h2
      have each : ∀ i, i < len → ∃ t, ∃ b o xs, a = ⟨b, o, none⟩ ∧ b < W.heap.size ∧ W.rangeAt b (o + i * 5) xs.toList ∧ Reads W.heap.size W (n2 + 1) xs t := by
        intro i hi
        have h1 := hev i hi
        rw [List.getElem?_eq_getElem (by omega), cells5] at h1
        cases hc : W.cells? 0 (a.add (i * 5)) 5 with
        | none => rw [hc] at h1; simp at h1
        | some cs' =>
          rw [hc] at h1
          simp only [Option.bind_some] at h1
          obtain ⟨t, ht⟩ := ih n2 (by omega) cs' _ h1
          obtain ⟨_, hl5, hcell⟩ := World.cells?_some hc
          have hat : ∀ j, j < 5 → W.cell? ((a.add (i * 5)).add j) = cs'[j]? := hcell
          have hsp := first (by omega)
          obtain ⟨b, o, sp⟩ := a
          simp only at hsp
          subst hsp
          have hat2 : ∀ j, j < 5 → W.cell? ⟨b, o + i * 5 + j, none⟩ = cs'[j]? := fun j hj => by
            have h := hat j hj
            rw [Addr.add_mid, Addr.add_mid] at h
            exact h
          have hv0 : W.cell? ⟨b, o + i * 5 + 0, none⟩ = some cs'[0] := by rw [hat2 0 (by omega)]; exact List.getElem?_eq_getElem (by omega)
          refine ⟨t, b, o, cs'.toArray, rfl, World.block_lt_of_cell? W _ hv0, fun j v hv => ?_, ht.deeper (by omega)⟩
          have hv' : cs'[j]? = some v := by simpa using hv
          have hj : j < cs'.length := (List.getElem?_eq_some_iff.1 hv').1
          rw [hat2 j (by omega)]; exact hv'
      obtain ⟨l, hll, hlp⟩ := list_of len each
      subst hll
      exact ⟨.node op nn m who l, in64_of_wf w0, in64_of_wf w1, in64_of_wf w2, in64_of_wf w3, some a, cap, rfl, hl, hm, fun i t hi => by
        obtain ⟨b, o, xs, h1, h2, h3, h4⟩ := hlp i t hi
        exact ⟨b, o, xs, by rw [h1], h2, h3, h4⟩⟩
theorem open_eff {base : Nat} {v : Value} {dd : DataW H} {p : List MemPlace} (hv : Value.okWide Try.prog W .any base 42 v) (h : DataW.Trod enc Try.prog W 0 (fun _ => true) true 42 v dd p) :
    ∃ d t cs, v = .agg cs ∧ Reads W.heap.size W d cs t := by
  obtain ⟨cs, rfl, _⟩ := okWide_struct Try.underlying42 hv
  obtain ⟨fuel, hf⟩ := h
  obtain ⟨t, ht⟩ := reads_of fuel _ _ hf
  exact ⟨fuel, t, cs, rfl, by simpa [Value.cells] using ht⟩
end
end Go.Proofs.Ytnlhblnkckkeiaa
