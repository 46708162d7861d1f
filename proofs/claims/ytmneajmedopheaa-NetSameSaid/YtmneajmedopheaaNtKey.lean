/- Layer 13: fields as keys of a map: arrays of three numbers. -/
import Derived.Test.YtmneajmedopheaaNtOne
import Derived.Test.YtmneajmedopheaaNtG1
import Derived.Maps.OwnSet
import Derived.Maps.OwnOps
import Derived.Maps.Views
import Derived.DeepKeys4
import Derived.OwnWalk
namespace Go.Proofs.Ytmneajmedopheaa
open Go.RowKit Ex Go.Maps
set_option maxRecDepth 100000
def key3 (k a b : Int) : Nat → Int := fun i => if i = 0 then k else if i = 1 then a else b
def keyF (x : EvT) : Nat → Int := key3 x.k x.a x.b
def keyV (x : EvT) : Value := .agg (arr .i64 3 (keyF x))
theorem laid3 : laidOutB Try.prog = true := by kernel_rfl
theorem row3 : (70 : TypeId) < Try.prog.types.size := of_decide_eq_true (by kernel_rfl)
theorem wide3 : (match Try.prog.underlying 70 with | some (.array _ _) | some (.struct _) => true | _ => false) = true := by kernel_rfl
theorem law3 : Go.Maps.Keyed Try.prog 70 := Go.Maps.Keyed.of_law (deep_law_laid laid3 (m := 3) (by omega) row3 (by kernel_rfl) wide3)
theorem types3 : ∃ m, Try.prog.types.size = m + 2 := ⟨Try.prog.types.size - 2, by kernel_rfl⟩
theorem keyType3 : Try.prog.keyType 70 = true := by kernel_rfl
theorem cells3 : Try.prog.cellsOf 70 = 3 := by kernel_rfl
theorem cellsI3 : Try.prog.cellsOf 3 = 1 := by kernel_rfl
theorem zeroI3 (w : World) : (zeroValue 3).run Try.prog w = .ok (.int .i64 0) w := by kernel_rfl
theorem arr3 (g : Nat → Int) : (arr .i64 3 g).toList = [.int .i64 (g 0), .int .i64 (g 1), .int .i64 (g 2)] := by
  unfold arr; simp [List.range_succ]
theorem wf64 {x : Int} (h : N64 x) : (Lit.int .i64 x).wf = true := by
  obtain ⟨h0, h1⟩ := h
  simp [Lit.wf, IntKind.min, IntKind.max, IntKind.signed, IntKind.bits]; omega
theorem key_of3 (g : Nat → Int) (h : ∀ i, i < 3 → N64 (g i)) : ∃ l, keyOf Try.prog 70 (.agg (arr .i64 3 g)) = some l := by
  have h0 := wf64 (h 0 (by omega))
  have h1 := wf64 (h 1 (by omega))
  have h2 := wf64 (h 2 (by omega))
  obtain ⟨m, hm⟩ := types3
  have hf : (Value.agg (arr .i64 3 g)).formed Try.prog 70 = true := by
    simp [Value.formed, Try.underlying70, cells3, arr_size]
  unfold keyOf
  simp only [Try.underlying70]
  rw [if_pos (by simp [keyType3, hf]), hm]
  simp only [Value.cells, arr3]
  unfold Program.keyLits
  simp [Try.underlying70, cells3, cellsI3]
  simp [Program.keyLits, Try.underlying3, List.range_succ, h0, h1, h2]
theorem EvI.key {x : EvT} (h : EvI x) : ∃ l, keyOf Try.prog 70 (keyV x) = some l := key_of3 _ fun i hi => by
  unfold keyF key3
  split
  · exact h.k
  split
  · exact h.a
  · exact h.b
theorem keyV_iff {x y : EvT} : keyV x = keyV y ↔ sameK x y = true := by
  rw [sameK_iff]
  constructor
  · intro h
    have h2 : arr .i64 3 (keyF x) = arr .i64 3 (keyF y) := by unfold keyV at h; injection h
    have e : ∀ i, i < 3 → keyF x i = keyF y i := fun i hi => by
      have h1 := arr_get .i64 3 (keyF x) hi
      rw [h2, arr_get .i64 3 (keyF y) hi] at h1
      injection h1 with h1
      injection h1 with h3 h4
      exact h4.symm
    exact ⟨e 0 (by omega), e 1 (by omega), e 2 (by omega)⟩
  · rintro ⟨h1, h2, h3⟩
    unfold keyV keyF; rw [h1, h2, h3]
abbrev Places (w : World) (b n : Nat) (D : DataW Unit) : Prop := w.ownsMap Try.prog 70 (plainElem Try.prog 3) b n D
/-- The map tells where each field stands among the sets. -/
structure MapF (D : DataW Unit) (f : List EvT) : Prop where
  m : IsMap D
  h : ∀ (x : EvT) (l : Lit), keyOf Try.prog 70 (keyV x) = some l → has D l = f.any fun y => sameK y x
  a : ∀ (x : EvT) (l : Lit) (i : Nat) (y : EvT), keyOf Try.prog 70 (keyV x) = some l → f[i]? = some y → sameK y x = true → ∀ z, D.atKey l z = .lit (.int .i64 (i : Int))
theorem MapF.nil : MapF (.map []) [] := ⟨isMap_empty, fun _ _ _ => rfl, fun _ _ _ _ _ h => by simp at h⟩
theorem sameK_refl (x : EvT) : sameK x x = true := sameK_iff.2 ⟨rfl, rfl, rfl⟩
/-- A new field. -/
theorem MapF.new {D : DataW Unit} {f : List EvT} (h : MapF D f) {x : EvT} {l : Lit} (hl : keyOf Try.prog 70 (keyV x) = some l) (hn : has D l = false) : MapF (D.put l (.lit (.int .i64 (f.length : Int)))) (f ++ [x]) := by
  have hno : ∀ y ∈ f, sameK y x = false := by
    have := h.h x l hl
    rw [hn] at this
    have := List.any_eq_false.1 this.symm
    intro y hy
    simpa using this y hy
  refine ⟨h.m.put _ _, fun y l2 h2 => ?_, fun y l2 i z h2 hz hs d => ?_⟩
  · by_cases e : l2 = l
    · subst e
      have hk := keyV_iff.1 (law3.inj hl h2)
      rw [has_put_same h.m (law3.key hl)]
      simp [List.any_append, hk]
    · rw [has_put_other e, h.h y l2 h2]
      have hk : sameK x y = false := by
        cases hs : sameK x y
        · rfl
        · have := keyV_iff.2 hs
          rw [this, h2] at hl
          exact absurd (Option.some.inj hl) e
      simp [List.any_append, hk]
  · by_cases hi : i < f.length
    · rw [List.getElem?_append_left hi] at hz
      have e : l2 ≠ l := by
        rintro rfl
        have hk := keyV_iff.1 (law3.inj hl h2)
        have := hno z (List.mem_of_getElem? hz)
        rw [sameK_symm, ← sameK_cong hk, sameK_symm] at hs
        rw [hs] at this; cases this
      rw [atKey_put_other e]
      exact h.a y l2 i z h2 hz hs d
    · have hi2 : i = f.length := by
        have := (List.getElem?_eq_some_iff.1 hz).1
        simp at this; omega
      subst hi2
      rw [List.getElem?_append_right (Nat.le_refl _)] at hz
      obtain rfl : x = z := by simpa using hz
      have e : l2 = l := by
        have := keyV_iff.2 hs
        rw [this, h2] at hl
        exact Option.some.inj hl
      subst e
      rw [atKey_put_same h.m (law3.key hl)]
/-- A field whose last number is another one. -/
theorem MapF.set_ {D : DataW Unit} {f : List EvT} (h : MapF D f) {i : Nat} {y : EvT} (hy : f[i]? = some y) (d : Int) : MapF D (f.set i { y with d := d }) := by
  have hi := (List.getElem?_eq_some_iff.1 hy).1
  refine ⟨h.m, fun x l hl => ?_, fun x l j z hl hz hs e => ?_⟩
  · rw [h.h x l hl, Bool.eq_iff_iff, List.any_eq_true, List.any_eq_true]
    constructor
    · rintro ⟨z, hz, hs⟩
      obtain ⟨j, hj⟩ := List.mem_iff_getElem?.1 hz
      by_cases ej : i = j
      · subst ej
        rw [hy] at hj; injection hj with hj; subst hj
        exact ⟨_, List.mem_iff_getElem?.2 ⟨i, List.getElem?_set_self hi⟩, hs⟩
      · exact ⟨z, List.mem_iff_getElem?.2 ⟨j, by rw [List.getElem?_set_ne ej]; exact hj⟩, hs⟩
    · rintro ⟨z, hz, hs⟩
      obtain ⟨j, hj⟩ := List.mem_iff_getElem?.1 hz
      by_cases ej : i = j
      · subst ej
        rw [List.getElem?_set_self hi] at hj; injection hj with hj; subst hj
        exact ⟨y, List.mem_of_getElem? hy, hs⟩
      · rw [List.getElem?_set_ne ej] at hj
        exact ⟨z, List.mem_of_getElem? hj, hs⟩
  · by_cases ej : i = j
    · subst ej
      rw [List.getElem?_set_self hi] at hz; injection hz with hz; subst hz
      exact h.a x l i y hl hy hs e
    · rw [List.getElem?_set_ne ej] at hz
      exact h.a x l j z hl hz hs e
theorem ins_none {f : List EvT} {x : EvT} (h : (f.any fun y => sameK y x) = false) : insE f x = f ++ [x] :=
  ins_new fun y hy => by simpa using List.any_eq_false.1 h y hy
end Go.Proofs.Ytmneajmedopheaa
