/- Opening an argument of four numbers (mulliganlaw01.Laid). -/
import Derived.Test.YtccabmlhlpmhbaaFrame
import Derived.Test.YtccabmlhlpmhbaaRows
import Derived.Lib.SmallJoins
namespace Go.Proofs.Ytccabmlhlpmhbaa
open Go.ChangeShapes Go.WideShapes Go.ChangeAt Go.RowKit Go.Joins

theorem u64_of_wf {x : Int} (h : (Lit.int .u64 x).wf = true) : ∃ n : Nat, x = n ∧ n < 2 ^ 64 := by
  have h' : 0 ≤ x ∧ x < 18446744073709551616 := by
    simp [Lit.wf, IntKind.min, IntKind.max, IntKind.signed, IntKind.bits] at h; omega
  exact ⟨x.toNat, by omega, by omega⟩
theorem cellsLaid : Try.prog.cellsOf 24 = 4 := by kernel_rfl
theorem open_laid {H : Type} {enc : TypeId × Value → H} {W : World} {base : Nat} {v : Value} {d : DataW H} {p : List MemPlace}
    (hv : Value.okWide Try.prog W .any base 24 v) (h : DataW.Trod enc Try.prog W 0 (fun _ => true) true 24 v d p) :
    ∃ x q : Nat, ∃ a n : Int, x < 2 ^ 64 ∧ q < 2 ^ 64 ∧ v = .agg #[.int .u64 x, .int .u64 q, .int .i64 a, .int .i64 n] := by
  obtain ⟨c0, c1, c2, c3, y0, y1, y2, y3, m, rfl, rfl, rfl, hy0, hy1, hy2, hy3⟩ := open_agg4 Try.underlying24 (by kernel_rfl) cellsLaid hv h
  obtain ⟨x, e0, rfl, wx⟩ := DataW.trod_int Try.underlying22 hy0
  obtain ⟨q, e1, rfl, wq⟩ := DataW.trod_int Try.underlying22 hy1
  obtain ⟨a, e2, rfl, wa⟩ := DataW.trod_int Try.underlying3 hy2
  obtain ⟨n, e3, rfl, wn⟩ := DataW.trod_int Try.underlying3 hy3
  simp at e0 e1 e2 e3
  subst e0 e1 e2 e3
  obtain ⟨x', rfl, hx⟩ := u64_of_wf wx
  obtain ⟨q', rfl, hq⟩ := u64_of_wf wq
  exact ⟨x', q', a, n, hx, hq, rfl⟩
end Go.Proofs.Ytccabmlhlpmhbaa
