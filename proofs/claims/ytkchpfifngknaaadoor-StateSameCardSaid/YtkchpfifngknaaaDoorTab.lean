/- Tables that a row lists: from 'it reads as this datum' to the cells. Arrays and structs of numbers, bools and strings, nested as you like. Over any program. -/
import Derived.LaidLaws
import Derived.LaidSub
import Derived.OpenShut
import Derived.ChangeArms
namespace Go.Proofs.YtkchpfifngknaaaDoor
open Go

/-- The parts of a composite type lie one behind the other, from o to e. -/
def tilesB (P : Program) : Nat → List (TypeId × Nat) → Nat → Bool
  | o, [], e => o == e
  | o, x :: r, e => x.2 == o && tilesB P (o + P.cellsOf x.1) r e
def flatAll (F : TypeId → DataW Unit → Option (List Value)) : List (TypeId × Nat) → List (DataW Unit) → Option (List Value)
  | [], [] => some []
  | x :: r, d :: ds => match F x.1 d, flatAll F r ds with
    | some a, some b => some (a ++ b)
    | _, _ => none
  | _, _ => none
def partsOf (P : Program) (t : TypeId) : Option (List (TypeId × Nat)) :=
  match P.underlying t with
  | some (.array n e) => some ((List.range n).map fun i => (e, i * P.cellsOf e))
  | some (.struct fs) => some (fs.toList.map fun f => (f.type, f.offset))
  | _ => none
/-- The cells of a datum of numbers, bools, strings, arrays and structs. -/
def flatD (P : Program) : Nat → TypeId → DataW Unit → Option (List Value)
  | 0, _, _ => none
  | _ + 1, t, .lit l => match P.underlying t, l with
    | some (.int _), .int k n => some [.int k n]
    | some .bool, .bool b => some [.bool b]
    | some .string, .string s => some [.string ⟨s.toArray⟩]
    | _, _ => none
  | f + 1, t, .agg ds => match partsOf P t with
    | some l => if tilesB P 0 l (P.cellsOf t) then flatAll (flatD P f) l ds else none
    | none => none
  | _ + 1, _, _ => none

theorem flat_cells {P : Program} {F : TypeId → DataW Unit → Option (List Value)} {cs : List Value} : ∀ (l : List (TypeId × Nat)) (ds : List (DataW Unit)) (o e : Nat) (vs : List Value), tilesB P o l e = true →
    (∀ (i : Nat) x d a, l[i]? = some x → ds[i]? = some d → F x.1 d = some a → (cs.drop x.2).take (P.cellsOf x.1) = a) → flatAll F l ds = some vs → o ≤ e ∧ (cs.drop o).take (e - o) = vs
  | [], [], o, e, vs, ht, _, hf => by
    simp only [tilesB, beq_iff_eq] at ht
    simp only [flatAll, Option.some.injEq] at hf
    subst ht hf
    exact ⟨Nat.le_refl _, by simp⟩
  | [], _ :: _, _, _, _, _, _, hf => by simp [flatAll] at hf
  | _ :: _, [], _, _, _, _, _, hf => by simp [flatAll] at hf
  | x :: r, d :: ds, o, e, vs, ht, hc, hf => by
    simp only [tilesB, Bool.and_eq_true, beq_iff_eq] at ht
    obtain ⟨h1, h2⟩ := ht
    simp only [flatAll] at hf
    split at hf
    · rename_i a b ha hb
      simp only [Option.some.injEq] at hf
      obtain ⟨i1, i2⟩ := flat_cells r ds (o + P.cellsOf x.1) e b h2 (fun i y d' a' hy hd => hc (i + 1) y d' a' (by simpa using hy) (by simpa using hd)) hb
      have hx := hc 0 x d a rfl rfl ha
      rw [h1] at hx
      refine ⟨by omega, ?_⟩
      rw [← hf, ← i2, ← hx, show e - o = P.cellsOf x.1 + (e - (o + P.cellsOf x.1)) by omega, List.take_add, List.drop_drop]
    · cases hf

theorem flat_of_trod {P : Program} {w : World} {sp : Nat → Bool} {held : Bool} {enc : TypeId × Value → Unit} : ∀ (f : Nat) (t : TypeId) (d : DataW Unit) (vs : List Value), flatD P f t d = some vs →
    ∀ (fuel : Nat) (cs : List Value) (p : List MemPlace), DataW.trod enc P w 0 sp held fuel t cs = some (d, p) → cs = vs
  | 0, _, _, _, h => by simp [flatD] at h
  | f + 1, t, d, vs, h => by
    intro fuel cs p hr
    cases d with
    | lit l =>
      simp only [flatD] at h
      split at h
      · rename_i k' k n hu
        obtain ⟨m, e1, e2, _⟩ := DataW.trod_int hu hr
        simp only [Prod.mk.injEq, DataW.lit.injEq, Lit.int.injEq] at e2
        obtain ⟨⟨rfl, rfl⟩, _⟩ := e2
        simp only [Option.some.injEq] at h
        rw [e1, h]
      · rename_i b hu
        obtain ⟨m, e1, e2⟩ := DataW.trod_bool hu hr
        simp only [Prod.mk.injEq, DataW.lit.injEq, Lit.bool.injEq] at e2
        obtain ⟨rfl, _⟩ := e2
        simp only [Option.some.injEq] at h
        rw [e1, h]
      · rename_i s hu
        obtain ⟨m, e1, e2, _⟩ := DataW.trod_string hu hr
        simp only [Prod.mk.injEq, DataW.lit.injEq, Lit.string.injEq] at e2
        obtain ⟨rfl, _⟩ := e2
        simp only [Option.some.injEq] at h
        rw [e1, ← h]
      · cases h
    | agg ds =>
      simp only [flatD] at h
      split at h
      · rename_i l hl
        split at h
        · rename_i htl
          unfold partsOf at hl
          split at hl
          · rename_i n e hu
            obtain ⟨xs, m, _, ex, hlen, hxl, hel⟩ := DataW.trod_array hu hr
            simp only [Prod.mk.injEq, DataW.agg.injEq] at ex
            obtain ⟨eds, _⟩ := ex
            simp only [Option.some.injEq] at hl
            subst hl
            obtain ⟨_, hh⟩ := flat_cells (cs := cs) _ ds 0 _ vs htl (fun i x d' a hx hd ha => by
              simp only [List.getElem?_map, Option.map_eq_some_iff] at hx
              obtain ⟨j, hj, rfl⟩ := hx
              obtain ⟨hj1, hj2⟩ := List.getElem?_eq_some_iff.1 hj
              simp only [List.length_range] at hj1
              simp only [List.getElem_range] at hj2
              subst hj2
              rw [eds, List.getElem?_map, Option.map_eq_some_iff] at hd
              obtain ⟨y, hy, rfl⟩ := hd
              have hi := hel i hj1
              rw [hy] at hi
              exact flat_of_trod f e y.1 a ha m _ y.2 hi) h
            rw [← hh, Nat.sub_zero, List.drop_zero, ← hlen, List.take_length]
          · rename_i fs hu
            obtain ⟨xs, m, _, ex, hlen, hxl, hel⟩ := DataW.trod_struct hu hr
            simp only [Prod.mk.injEq, DataW.agg.injEq] at ex
            obtain ⟨eds, _⟩ := ex
            simp only [Option.some.injEq] at hl
            subst hl
            obtain ⟨_, hh⟩ := flat_cells (cs := cs) _ ds 0 _ vs htl (fun i x d' a hx hd ha => by
              simp only [List.getElem?_map, Option.map_eq_some_iff, Array.getElem?_toList] at hx
              obtain ⟨g, hg, rfl⟩ := hx
              rw [eds, List.getElem?_map, Option.map_eq_some_iff] at hd
              obtain ⟨y, hy, rfl⟩ := hd
              have hi := hel i g hg
              rw [hy] at hi
              exact flat_of_trod f g.type y.1 a ha m _ y.2 hi) h
            rw [← hh, Nat.sub_zero, List.drop_zero, ← hlen, List.take_length]
          · cases hl
        · cases h
      · cases h
    | _ => simp [flatD] at h

/-- The variable of that name holds just these cells. -/
theorem laid_row {P : Program} {w : World} {name : String} {d : DataW Unit} {g : Nat} {t : TypeId} {vs : List Value} (f : Nat) : ∀ {l : List (String × DataW Unit)} {ps : List MemPlace}, DataW.LaidVars P w l ps →
    (∀ b off, MemPlace.cell b off ∈ ps → ∃ c t, w.heap[b]? = some (.cells c t (0, 0))) → (name, d) ∈ l → P.globalNamed name = some g → (P.globals[g]?).map (·.type) = some t → flatD P f t d = some vs → vs ≠ [] →
    ∃ t', w.heap[g]? = some (.cells vs.toArray t' (0, 0))
  | [], _, _, _, hm, _, _, _, _ => by cases hm
  | (n, d') :: r, ps, hl, hrow, hm, hg, ht, hf, hne => by
    obtain ⟨g', t', cs, fuel, p, q, e1, e2, e3, e4, hr, rfl⟩ := hl
    rcases List.mem_cons.1 hm with hm | hm
    · simp only [Prod.mk.injEq] at hm
      obtain ⟨rfl, rfl⟩ := hm
      obtain rfl : g = g' := Option.some.inj (hg.symm.trans e1)
      obtain rfl : t = t' := Option.some.inj (ht.symm.trans e2)
      have hcs := flat_of_trod f t d vs hf fuel cs.toList p e4
      have hsz : 0 < cs.size := by
        rcases Nat.eq_zero_or_pos cs.size with h | h
        · exact absurd (by rw [← hcs]; simpa using h) hne
        · exact h
      obtain ⟨c, u, hc⟩ := hrow g 0 (by simp only [List.mem_append]; left; left; unfold MemPlace.row; exact List.mem_map.2 ⟨0, by simpa using hsz, rfl⟩)
      simp only [World.var?, hg, Option.bind_some, hc, Option.some.injEq] at e3
      exact ⟨u, by rw [hc, e3, ← hcs]⟩
    · exact laid_row f hr (fun b off h => hrow b off (by simp only [List.mem_append]; right; exact h)) hm hg ht hf hne
/-- The cells of the list's i-th variable, which is global g. -/
def laidVs (P : Program) (l : List (String × DataW Unit)) (f i g : Nat) : Option (List Value) :=
  match (l.filter fun x => x.2.handleName?.isNone)[i]?, (P.globals[g]?).map (·.type) with
  | some x, some t => if P.globalNamed x.1 = some g then flatD P f t x.2 else none
  | _, _ => none
/-- f: more than the nesting's depth; i: the variable's place on the row's list; g: its number. One closed fact. -/
theorem laid_cells {P : Program} {w : World} {l : List (String × DataW Unit)} (h : laidMetH P l w) (f i g : Nat) {vs : List Value} (hf : laidVs P l f i g = some vs) (hne : vs ≠ []) : ∃ t', w.heap[g]? = some (.cells vs.toArray t' (0, 0)) := by
  obtain ⟨ps, hl, _, hrows⟩ := (laidMetH_iff.1 h).1
  unfold laidVs at hf
  split at hf
  · rename_i x t hx ht
    split at hf
    · rename_i hg
      exact laid_row f hl (fun b off hp => (hrows b off hp).1) (List.mem_of_getElem? hx) hg ht hf hne
    · cases hf
  · cases hf
end Go.Proofs.YtkchpfifngknaaaDoor
