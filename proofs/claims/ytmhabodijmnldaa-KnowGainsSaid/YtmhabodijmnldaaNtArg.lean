/- Layer 13: an argument that is a list of events, opened. -/
import Derived.Test.YtmhabodijmnldaaEvArg
import Derived.Test.YtmhabodijmnldaaNtEv
namespace Go.Proofs.Ytmhabodijmnldaa
open Go.ChangeShapes Go.WideShapes Go.ChangeAt Go.RowKit Ex
set_option maxRecDepth 100000
section
variable {H : Type} {enc : TypeId × Value → H} {W : World}
/-- The events within. -/
theorem trod_evs {fuel : Nat} {c : Value} {x : DataW H × List MemPlace} (h : DataW.trod enc Try.prog W 0 (fun _ => true) true fuel 39 [c] = some x) :
    ∃ (q : SlT) (l : List EvT), c = q.v ∧ q.n ≤ q.c ∧ q.c ≤ maxLen ∧ Evs W.heap.size W q.A q.n l := by
  rcases DataW.trod_slice Try.underlying39 h with ⟨g7, _⟩ | ⟨a, len, cap, elems, rest, n2, rfl, g7, _, _, hl, hm, hel, hev, _⟩
  · simp at g7
    exact ⟨⟨none, 0, 0⟩, [], g7, Nat.le_refl _, by simp, Evs.nil⟩
  · simp at g7
    have first : 0 < len → a.spot = none := fun h0 => by
      have h1 := hev 0 h0
      rw [List.getElem?_eq_getElem (by omega), cellsEv] at h1
      cases hc : W.cells? 0 (a.add (0 * 6)) 6 with
      | none => rw [hc] at h1; simp at h1
      | some cs' =>
        obtain ⟨_, hl5, hcell⟩ := World.cells?_some hc
        have h2 := hcell 0 (by omega)
        rw [List.getElem?_eq_getElem (by omega), Nat.zero_mul] at h2
        exact spot_none' (a := a) h2
    have each : ∀ i, i < len → ∃ o : EvT, (∃ b off, a = ⟨b, off, none⟩ ∧ b < W.heap.size ∧ W.rangeAt b (off + i * 6) (evC o).toList) ∧ EvI o := by
      intro i hi
      have h1 := hev i hi
      rw [List.getElem?_eq_getElem (by omega), cellsEv] at h1
      cases hc : W.cells? 0 (a.add (i * 6)) 6 with
      | none => rw [hc] at h1; simp at h1
      | some cs' =>
        rw [hc] at h1
        simp only [Option.bind_some] at h1
        obtain ⟨o, ho, hw⟩ := reads_ev _ _ _ h1
        obtain ⟨_, hl5, hcell⟩ := World.cells?_some hc
        have hat : ∀ j, j < 6 → W.cell? ((a.add (i * 6)).add j) = cs'[j]? := hcell
        have hsp := first (by omega)
        obtain ⟨b, off, sp⟩ := a
        simp only at hsp
        subst hsp
        have hat2 : ∀ j, j < 6 → W.cell? ⟨b, off + i * 6 + j, none⟩ = cs'[j]? := fun j hj => by
          have h := hat j hj
          rw [Addr.add_mid, Addr.add_mid] at h
          exact h
        have hv0 : W.cell? ⟨b, off + i * 6 + 0, none⟩ = some cs'[0] := by rw [hat2 0 (by omega)]; exact List.getElem?_eq_getElem (by omega)
        refine ⟨o, ⟨b, off, rfl, World.block_lt_of_cell? W _ hv0, fun j v hv => ?_⟩, hw⟩
        rw [← ho] at hv
        have hj : j < cs'.length := (List.getElem?_eq_some_iff.1 hv).1
        rw [hat2 j (by omega)]; exact hv
    obtain ⟨l, hll, hlp⟩ := list_of' len each
    refine ⟨⟨some a, len, cap⟩, l, g7, hl, hm, hll.symm, fun i o hi => ?_, fun o ho => ?_⟩
    · obtain ⟨b, off, h1, h2, h3⟩ := (hlp i o hi).1
      exact ⟨b, off, by rw [h1], h2, h3⟩
    · obtain ⟨i, hi⟩ := List.mem_iff_getElem?.1 ho
      exact (hlp i o hi).2
theorem open_events {base : Nat} {v : Value} {dd : DataW H} {p : List MemPlace} (hv : Value.okWide Try.prog W .any base 39 v) (h : DataW.Trod enc Try.prog W 0 (fun _ => true) true 39 v dd p) :
    ∃ A n c l, v = .slice A n c ∧ n ≤ c ∧ c ≤ maxLen ∧ Evs W.heap.size W A n l := by
  obtain ⟨A, n, c, rfl⟩ := okWide_slice Try.underlying39 hv
  obtain ⟨fuel, hf⟩ := h
  obtain ⟨q, l, hq, h1, h2, h3⟩ := trod_evs (c := .slice A n c) (by simpa [Value.cells] using hf)
  obtain ⟨A', n', c'⟩ := q
  injection hq with e1 e2 e3
  subst e1 e2 e3
  exact ⟨A, n, c, l, rfl, h1, h2, h3⟩
end
end Go.Proofs.Ytmhabodijmnldaa
