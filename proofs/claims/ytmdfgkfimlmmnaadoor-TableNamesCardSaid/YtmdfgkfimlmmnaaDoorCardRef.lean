/- Layer 7: the reference's cost, Uses and Aims. -/
import Derived.Test.YtmdfgkfimlmmnaaDoorCardBase
namespace Go.Proofs.YtmdfgkfimlmmnaaDoor
open Go.RowKit Ex Mx
attribute [local go_sem] arr_get
theorem infoI : (Tryd.prog.info? 3).map (fun i => (i.zero, i.size, i.bytes)) = some (some (.int .i64 0), 1, 8) := by kernel_rfl
namespace Ex
/-- A cost that may be, of nothing if it must. -/
def CostC (f : Nat → Int) (nothing : Bool) : Prop := GoodC f ∧ f 0 + f 1 + f 2 + f 3 + f 4 + f 5 ≤ 20 ∧ (nothing = true → f 0 + f 1 + f 2 + f 3 + f 4 + f 5 = 0)
/-- The places, below k, of the abilities that count then. -/
def usesK (l : List AbT) (wh : Int) : Nat → List Int
  | 0 => []
  | k + 1 => usesK l wh k ++ (match l[k]? with | some a => if a.when_ = wh then [(k : Int)] else [] | none => [])
def usesL (l : List AbT) (wh : Int) : List Int := usesK l wh l.length
theorem usesK_len (l : List AbT) (wh : Int) : ∀ k, (usesK l wh k).length ≤ k
  | 0 => by simp [usesK]
  | k + 1 => by
    have := usesK_len l wh k
    simp only [usesK, List.length_append]
    split
    · split <;> simp <;> omega
    · simp; omega
theorem usesK_yes {l : List AbT} {wh : Int} {k : Nat} {a : AbT} (h : l[k]? = some a) (hw : a.when_ = wh) : usesK l wh (k + 1) = usesK l wh k ++ [(k : Int)] := by simp [usesK, h, hw]
theorem usesK_no {l : List AbT} {wh : Int} {k : Nat} {a : AbT} (h : l[k]? = some a) (hw : a.when_ ≠ wh) : usesK l wh (k + 1) = usesK l wh k := by simp [usesK, h, hw]
/-- Each place in the list is one of an ability that counts then. -/
theorem usesK_at {l : List AbT} {wh : Int} : ∀ {k : Nat} {x : Int}, k ≤ l.length → x ∈ usesK l wh k → ∃ (j : Nat) (a : AbT), x = (j : Int) ∧ j < k ∧ l[j]? = some a ∧ a.when_ = wh
  | 0, x, _, h => by simp [usesK] at h
  | k + 1, x, hk, h => by
    have hlt : k < l.length := by omega
    have ha := List.getElem?_eq_getElem hlt
    by_cases hw : l[k].when_ = wh
    · rw [usesK_yes ha hw] at h
      rcases List.mem_append.1 h with h | h
      · obtain ⟨j, a, h1, h2, h3, h4⟩ := usesK_at (by omega) h
        exact ⟨j, a, h1, by omega, h3, h4⟩
      · simp at h; exact ⟨k, _, h, by omega, ha, hw⟩
    · rw [usesK_no ha hw] at h
      obtain ⟨j, a, h1, h2, h3, h4⟩ := usesK_at (by omega) h
      exact ⟨j, a, h1, by omega, h3, h4⟩
/-- What the first Spell aims at. -/
def aimsL : List AbT → Int
  | [] => 0
  | a :: l => if a.when_ = 0 then a.target else aimsL l
end Ex
end Go.Proofs.YtmdfgkfimlmmnaaDoor
