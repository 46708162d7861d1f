/- Layer 12: an argument that is an event, opened. -/
import Derived.Test.YtmhabodijmnldaaSlArg
import Derived.Test.YtmhabodijmnldaaEvInv
import Derived.OpenShut
namespace Go.Proofs.Ytmhabodijmnldaa
open Go.ChangeShapes Go.WideShapes Go.ChangeAt Go.RowKit Ex
set_option maxRecDepth 100000
theorem cellsEv : Try.prog.cellsOf 44 = 6 := by kernel_rfl
section
variable {H : Type} {enc : TypeId × Value → H} {W : World}
theorem reads_ev (fuel : Nat) (cs : List Value) (x : DataW H × List MemPlace) (h : DataW.trod enc Try.prog W 0 (fun _ => true) true fuel 44 cs = some x) : ∃ e, cs = (evC e).toList ∧ EvI e := by
  obtain ⟨xs, n, rfl, _, hlen, hlen', hf⟩ := DataW.trod_struct Try.underlying44 h
  have e5 : xs.length = 6 := hlen'
  rw [cellsEv] at hlen
  have each : ∀ i, i < 6 → ∃ n : Int, cs[i]? = some (.int .i64 n) ∧ N64 n := by
    intro i hi
    have part : ∃ y, xs[i]? = some y := ⟨_, List.getElem?_eq_getElem (by omega)⟩
    obtain ⟨y, hy⟩ := part
    have f : DataW.trod enc Try.prog W 0 (fun _ => true) true n 3 ((cs.drop i).take (Try.prog.cellsOf 3)) = some y := by
      match i, hi with
      | 0, _ => exact (hf 0 _ rfl).trans hy
      | 1, _ => exact (hf 1 _ rfl).trans hy
      | 2, _ => exact (hf 2 _ rfl).trans hy
      | 3, _ => exact (hf 3 _ rfl).trans hy
      | 4, _ => exact (hf 4 _ rfl).trans hy
      | 5, _ => exact (hf 5 _ rfl).trans hy
    have hci : i < cs.length := by omega
    have e1 : (cs.drop i).take 1 = [cs[i]] := by rw [List.drop_eq_getElem_cons hci]; rfl
    rw [cells_int, e1] at f
    obtain ⟨z, hz, _, hw⟩ := DataW.trod_int Try.underlying3 f
    exact ⟨z, by rw [List.getElem?_eq_getElem hci]; simpa using hz, i64_of_wf hw⟩
  obtain ⟨k, hk, wk⟩ := each 0 (by omega)
  obtain ⟨a, ha, wa⟩ := each 1 (by omega)
  obtain ⟨b, hb, wb⟩ := each 2 (by omega)
  obtain ⟨c, hc, wc⟩ := each 3 (by omega)
  obtain ⟨d, hd, wd⟩ := each 4 (by omega)
  obtain ⟨f, he, we⟩ := each 5 (by omega)
  refine ⟨⟨k, a, b, c, d, f⟩, ?_, ⟨wk, wa, wb, wc, wd, we⟩⟩
  apply List.ext_getElem?
  intro i
  match i with
  | 0 => exact hk
  | 1 => exact ha
  | 2 => exact hb
  | 3 => exact hc
  | 4 => exact hd
  | 5 => exact he
  | i + 6 => rw [List.getElem?_eq_none (by omega)]; rfl
theorem open_event {base : Nat} {v : Value} {dd : DataW H} {p : List MemPlace} (hv : Value.okWide Try.prog W .any base 44 v) (h : DataW.Trod enc Try.prog W 0 (fun _ => true) true 44 v dd p) :
    ∃ e, v = evV e ∧ EvI e := by
  obtain ⟨cs, rfl, _⟩ := okWide_struct Try.underlying44 hv
  obtain ⟨fuel, hf⟩ := h
  obtain ⟨e, he, hi⟩ := reads_ev fuel _ _ hf
  refine ⟨e, ?_, hi⟩
  have : cs = evC e := by
    have he : cs.toList = (evC e).toList := by simpa [Value.cells] using he
    exact Array.toList_inj.1 he
  rw [this]; rfl
end
end Go.Proofs.Ytmhabodijmnldaa
