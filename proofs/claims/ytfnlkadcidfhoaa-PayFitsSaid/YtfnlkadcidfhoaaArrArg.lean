/- Opening an argument that is an array of numbers. -/
import Derived.Test.YtfnlkadcidfhoaaArr
import Derived.OpenShut
namespace Go.Proofs.Ytfnlkadcidfhoaa
open Go.ChangeShapes Go.WideShapes Go.RowKit

theorem open_nums_arr {P : Program} {H : Type} {enc : TypeId × Value → H} {W : World} {base m : Nat} {t e : TypeId} {k : IntKind} {v : Value} {d : DataW H} {p : List MemPlace}
    (ht : P.underlying t = some (.array m e)) (he : P.underlying e = some (.int k)) (hc : P.cellsOf e = 1) (hct : P.cellsOf t = m)
    (hv : Value.okWide P W .any base t v) (h : DataW.Trod enc P W 0 (fun _ => true) true t v d p) :
    ∃ f : Nat → Int, v = .agg (arr k m f) ∧ ∀ i, i < m → (Lit.int k (f i)).wf = true := by
  simp only [Value.okWide, ht] at hv
  obtain ⟨cs, rfl, hsz, _⟩ := hv
  rw [hct] at hsz
  obtain ⟨fuel, hf⟩ := h
  obtain ⟨xs, n, _, _, hl, hlen, hx⟩ := DataW.trod_array ht hf
  simp only [Value.cells] at hl hx
  rw [hc] at hx
  have each : ∀ i, i < m → ∃ n : Int, cs[i]? = some (.int k n) ∧ (Lit.int k n).wf = true := by
    intro i hi
    have h1 := hx i hi
    rw [Nat.mul_one] at h1
    have hxi : i < xs.length := by omega
    rw [List.getElem?_eq_getElem hxi] at h1
    have hci : i < cs.toList.length := by simp; omega
    have e1 : (cs.toList.drop i).take 1 = [cs.toList[i]] := by
      rw [List.drop_eq_getElem_cons hci]; rfl
    rw [e1] at h1
    obtain ⟨z, hz, _, hw⟩ := DataW.trod_int he h1
    refine ⟨z, ?_, hw⟩
    have hz' : cs.toList[i] = .int k z := by simpa using hz
    rw [← Array.getElem?_toList, List.getElem?_eq_getElem hci, hz']
  refine ⟨fun i => match cs[i]? with | some (.int _ n) => n | _ => 0, ?_, ?_⟩
  · congr 1
    apply Array.ext
    · rw [arr_size]; exact hsz
    · intro i h1 h2
      rw [arr_size] at h2
      obtain ⟨z, hz, _⟩ := each i h2
      have e1 : cs[i] = .int k z := by
        rw [Array.getElem?_eq_getElem h1] at hz; simpa using hz
      have e2 := arr_get k m (fun i => match cs[i]? with | some (.int _ n) => n | _ => 0) h2
      rw [Array.getElem?_eq_getElem (by rw [arr_size]; exact h2)] at e2
      simp only [Option.some.injEq] at e2
      rw [e2, e1]; simp [hz]
  · intro i hi
    obtain ⟨z, hz, hw⟩ := each i hi
    simp [hz, hw]
end Go.Proofs.Ytfnlkadcidfhoaa
