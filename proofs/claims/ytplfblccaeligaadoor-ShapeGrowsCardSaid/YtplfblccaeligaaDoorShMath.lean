/- Layer 17: shapes as plain data. -/
import Derived.Test.YtplfblccaeligaaDoorTblIs
import Derived.Test.YtplfblccaeligaaDoorSt
namespace Go.Proofs.YtplfblccaeligaaDoor
open Go.RowKit Ex Mx
/-- An object by its number. -/
def objS (s : StT) (id : Int) : Nat → Int := s.objs.getD id.toNat fun _ => 0
def cdS (s : StT) (id : Int) : CardT := tblX (objS s id 0)
/-- Is there such an object? -/
def InS (s : StT) (id : Int) : Prop := 0 ≤ id ∧ id < (s.objs.length : Int)
instance (s : StT) (id : Int) : Decidable (InS s id) := inferInstanceAs (Decidable (_ ∧ _))
/-- Is it a creature? -/
def isB (s : StT) (id : Int) : Bool := decide (InS s id) && (objS s id 3 == 8) && ((cdS s id).kind == 1)
/-- The statics among abilities. -/
def statO (id : Int) : List AbT → List (Int × ET)
  | [] => []
  | a :: r => (if a.when_ = 5 then [(id, a.do_)] else []) ++ statO id r
def statL (s : StT) : List Int → List (Int × ET)
  | [] => []
  | id :: r => statO id (cdS s id).abs ++ statL s r
def statS (s : StT) : List (Int × ET) := statL s (s.lists 8)
/-- Is a creature of a static's group? -/
def grpB (s : StT) (x : Int × ET) (id : Int) : Bool :=
  (x.2.n == 0) || ((x.2.n == 1) && (objS s id 2 == objS s x.1 2)) || ((x.2.n == 2) && !(objS s id 2 == objS s x.1 2)) || ((x.2.n == 3) && (objS s id 2 == objS s x.1 2) && (x.1 != id))
/-- A player's creatures among some. -/
def beastL (s : StT) (p : Int) : List Int → List Int
  | [] => []
  | id :: r => (if isB s id = true ∧ objS s id 2 = p then [id] else []) ++ beastL s p r
def beastS (s : StT) (p : Int) : List Int := beastL s p (s.lists 8)
theorem statO_app (id : Int) : ∀ (a b : List AbT), statO id (a ++ b) = statO id a ++ statO id b
  | [], b => rfl
  | x :: a, b => by simp only [List.cons_append, statO, statO_app id a b, List.append_assoc]
theorem statL_app (s : StT) : ∀ (a b : List Int), statL s (a ++ b) = statL s a ++ statL s b
  | [], b => rfl
  | x :: a, b => by simp only [List.cons_append, statL, statL_app s a b, List.append_assoc]
theorem beastL_app (s : StT) (p : Int) : ∀ (a b : List Int), beastL s p (a ++ b) = beastL s p a ++ beastL s p b
  | [], b => rfl
  | x :: a, b => by simp only [List.cons_append, beastL, beastL_app s p a b, List.append_assoc]
theorem beastL_len (s : StT) (p : Int) : ∀ l : List Int, (beastL s p l).length ≤ l.length
  | [] => by simp [beastL]
  | x :: l => by
    have := beastL_len s p l
    simp only [beastL, List.length_append, List.length_cons]
    split <;> simp <;> omega
theorem objS_at {s : StT} {k : Nat} {o : Nat → Int} (h : s.objs[k]? = some o) : objS s (k : Int) = o := by
  unfold objS
  rw [Int.toNat_natCast, List.getD_eq_getElem?_getD, h]; rfl
theorem InS.ob {s : StT} {id : Int} (h : InS s id) : ∃ (k : Nat) (o : Nat → Int), id = (k : Int) ∧ k < s.objs.length ∧ s.objs[k]? = some o ∧ objS s id = o := by
  obtain ⟨k, rfl⟩ := Int.eq_ofNat_of_zero_le h.1
  have hk : k < s.objs.length := by have := h.2; omega
  exact ⟨k, s.objs[k], rfl, hk, List.getElem?_eq_getElem hk, objS_at (List.getElem?_eq_getElem hk)⟩
theorem isB_at {s : StT} {k : Nat} (h : isB s (k : Int) = true) : ∃ o, s.objs[k]? = some o ∧ o 3 = 8 ∧ objS s (k : Int) = o := by
  unfold isB at h
  simp only [Bool.and_eq_true, decide_eq_true_eq, beq_iff_eq] at h
  obtain ⟨j, o, e, hj, ho, hos⟩ := InS.ob h.1.1
  obtain rfl : k = j := by omega
  exact ⟨o, ho, by rw [← hos]; exact h.1.2, hos⟩
end Go.Proofs.YtplfblccaeligaaDoor
