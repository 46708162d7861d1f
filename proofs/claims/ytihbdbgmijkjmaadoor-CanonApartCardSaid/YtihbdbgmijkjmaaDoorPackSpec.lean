/- Layer 3: numbers saturated, pairs and halves; what head and rest tell: plain facts. -/
import Derived.Test.YtihbdbgmijkjmaaDoorPackObj
namespace Go.Proofs.YtihbdbgmijkjmaaDoor
open Go.RowKit
namespace Px
/-- The nearest number of 16 bits. -/
def sat (n : Int) : Int := max (min n 32767) (-32768)
def pairV (a b : Int) : Int := (a + 65536) % 65536 * 65536 + (b + 65536) % 65536
/-- The number of 16 bits that these bits are. -/
def sgn (x : Int) : Int := if x < 32768 then x else x - 65536
theorem sat_range (n : Int) : -32768 ≤ sat n ∧ sat n ≤ 32767 := by unfold sat; omega
theorem sgn_range {x : Int} (h0 : 0 ≤ x) (h1 : x < 65536) : -32768 ≤ sgn x ∧ sgn x ≤ 32767 := by unfold sgn; split <;> omega
theorem pair_range {a b : Int} (_ : -32768 ≤ a ∧ a ≤ 32767) (_ : -32768 ≤ b ∧ b ≤ 32767) : 0 ≤ pairV a b ∧ pairV a b < 4294967296 := by unfold pairV; omega
theorem halves_pair {a b : Int} (ha : -32768 ≤ a ∧ a ≤ 32767) (hb : -32768 ≤ b ∧ b ≤ 32767) : sgn (pairV a b / 65536) = a ∧ sgn (pairV a b % 65536) = b := by
  have e1 : pairV a b / 65536 = (a + 65536) % 65536 := by unfold pairV; omega
  have e2 : pairV a b % 65536 = (b + 65536) % 65536 := by unfold pairV; omega
  rw [e1, e2]
  unfold sgn
  constructor <;> split <;> omega
theorem pair_halves {x : Int} (h0 : 0 ≤ x) (h1 : x < 4294967296) : pairV (sgn (x / 65536)) (sgn (x % 65536)) = x := by
  have e : ∀ y : Int, 0 ≤ y → y < 65536 → (sgn y + 65536) % 65536 = y := by
    intro y h0 h1; unfold sgn; split <;> omega
  unfold pairV
  rw [e _ (by omega) (by omega), e _ (by omega) (by omega)]; omega

/-- Head and rest tell the object. -/
theorem sum_lit (o : Nat → Int) : sumH o 9 = o 1 + 2 * o 2 + 4 * o 3 + 64 * o 4 + 128 * o 5 + 256 * o 11 + 512 * o 13 + 2048 * o 17 + 8192 * o 10 := by
  obtain ⟨e0, e1, e2, e3, e4, e5, e6, e7, e8⟩ := w9s
  simp only [sumH, e0, e1, e2, e3, e4, e5, e6, e7, e8]
  simp [fN, fl]
theorem fit_lit {o : Nat → Int} : Fit o 9 ↔ (0 ≤ o 1 ∧ o 1 < 2) ∧ (0 ≤ o 2 ∧ o 2 < 2) ∧ (0 ≤ o 3 ∧ o 3 < 16) ∧ (0 ≤ o 4 ∧ o 4 < 2) ∧ (0 ≤ o 5 ∧ o 5 < 2) ∧ (0 ≤ o 11 ∧ o 11 < 2) ∧ (0 ≤ o 13 ∧ o 13 < 4) ∧ (0 ≤ o 17 ∧ o 17 < 4) ∧ (0 ≤ o 10 ∧ o 10 < 256) := by
  constructor
  · intro h
    exact ⟨h 0 (by omega), h 1 (by omega), h 2 (by omega), h 3 (by omega), h 4 (by omega), h 5 (by omega), h 6 (by omega), h 7 (by omega), h 8 (by omega)⟩
  · rintro ⟨h0, h1, h2, h3, h4, h5, h6, h7, h8⟩
    exact all9 h0 h1 h2 h3 h4 h5 h6 h7 h8
theorem obj_back {o : Nat → Int} (h : Fit o 9) : ∀ i, i < 18 → objF (sumH o 9) (restF o) i = o i := by
  rw [sum_lit]
  obtain ⟨h0, h1, h2, h3, h4, h5, h6, h7, h8⟩ := fit_lit.1 h
  refine all18 (all9 rfl ?_ ?_ ?_ ?_ ?_ rfl rfl rfl) (all9 rfl ?_ ?_ rfl ?_ rfl rfl rfl ?_)
  all_goals simp only [objF, objL, List.getD_cons_succ, List.getD_cons_zero, Nat.reduceAdd]
  all_goals omega
theorem head_back {x : Int} (h0 : 0 ≤ x) (h1 : x < 2097152) (r : Nat → Int) : Fit (objF x r) 9 ∧ sumH (objF x r) 9 = x ∧ ∀ i, i < 9 → restF (objF x r) i = r i := by
  refine ⟨?_, ?_, ?_⟩
  · rw [fit_lit]
    simp only [objF, objL, List.getD_cons_succ, List.getD_cons_zero]
    omega
  · rw [sum_lit]
    simp only [objF, objL, List.getD_cons_succ, List.getD_cons_zero]
    omega
  · exact all9 rfl rfl rfl rfl rfl rfl rfl rfl rfl
end Px
end Go.Proofs.YtihbdbgmijkjmaaDoor
