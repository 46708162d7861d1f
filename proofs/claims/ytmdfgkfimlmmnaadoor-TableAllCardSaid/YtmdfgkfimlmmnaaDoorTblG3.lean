/- Tables that a row lists: from 'it reads as this datum' to the cells. Arrays and structs of numbers, bools and strings, nested as you like. Over any program. What the library says of strconv_Itoa, strings_Cut, strconv_Atoi_ok, strconv_Atoi_range, at this program's numbers: plain layings, by program. Layer 8: the library's table, figures, and what a row lists of errors. Layer 8: table's cards that follow no rule. Layer 8: table's Beasts: their abilities. Layer 8: table's Beasts. Layer 8: table's card of any number. Layer 8: table's Card and Name. Layer 8: table's Deck. Layer 8: table's Number. Layer 8: from the row's list, and from the world's shape, to what the library's variables hold. -/
import Derived.LaidLaws
import Derived.LaidSub
import Derived.OpenShut
import Derived.ChangeArms
import Derived.Shelf.Strconv.Atoi
import Derived.Shelf.Strconv.Itoa0
import Derived.Shelf.Strconv.Itoa1
import Derived.Shelf.LaysM
import Derived.Shelf.Strconv.Itoa2
import Derived.Shelf.Strconv.Itoa3
import Derived.Shelf.Strconv.AtoiErrFast
import Derived.Shelf.Strconv.ParseIntEmpty
import Derived.Shelf.Strconv.AtoiFail
import Derived.Shelf.Strconv.Clone
import Derived.Shelf.Strconv.SyntaxError
import Derived.Shelf.LaysC
import Derived.Shelf.Strconv.ToError
import Derived.Shelf.Strconv.Lower
import Derived.Shelf.Strconv.ParseUint10
import Derived.Shelf.Strconv.ParseUint10Empty
import Derived.Shelf.Strconv.ParseUint10Any
import Derived.Shelf.Strconv.ParseInt10
import Derived.Shelf.Strconv.AtoiLong
import Derived.Shelf.Strconv.AtoiInnerAll
import Derived.Shelf.Strconv.RangeError
import Derived.Shelf.Strconv.ToErrorRange
import Derived.Shelf.Strconv.AtoiAll
import Derived.Shelf.Strings.Search1
import Derived.Shelf.Strings.Search2
import Derived.Shelf.Strings.Cut
import Derived.Shelf.Strings.Shaped
import Derived.Test.YtmdfgkfimlmmnaaDoorProg
import Derived.Test.YtmdfgkfimlmmnaaDoorTblG1
import Derived.Test.YtmdfgkfimlmmnaaDoorTblG2
import Derived.Test.YtmdfgkfimlmmnaaDoorTblG4
import Derived.Maps.Views
import Derived.Maps.OwnOps
import Derived.Maps.RangeWalk
import Derived.OwnWalk
import Derived.Lib.AtoiErrMem
namespace Go.Proofs.YtmdfgkfimlmmnaaDoor
open Go

/-- The parts of a composite type lie one behind the other, from o to e. -/
def tilesB (P : Program) : Nat → List (TypeId × Nat) → Nat → Bool
  | o, [], e => o == e
  | o, x :: r, e => x.2 == o && tilesB P (o + P.cellsOf x.1) r e
def flatAll (F : TypeId → DataW Unit → Option (List Value)) : List (TypeId × Nat) → List (DataW Unit) → Option (List Value)
  | [], [] => some []
  | x :: r, d :: ds => match F x.1 d, flatAll F r ds with
    | some a, some b => some (a ++ b)
    | _, _ => none
  | _, _ => none
def partsOf (P : Program) (t : TypeId) : Option (List (TypeId × Nat)) :=
  match P.underlying t with
  | some (.array n e) => some ((List.range n).map fun i => (e, i * P.cellsOf e))
  | some (.struct fs) => some (fs.toList.map fun f => (f.type, f.offset))
  | _ => none
/-- The cells of a datum of numbers, bools, strings, arrays and structs. -/
def flatD (P : Program) : Nat → TypeId → DataW Unit → Option (List Value)
  | 0, _, _ => none
  | _ + 1, t, .lit l => match P.underlying t, l with
    | some (.int _), .int k n => some [.int k n]
    | some .bool, .bool b => some [.bool b]
    | some .string, .string s => some [.string ⟨s.toArray⟩]
    | _, _ => none
  | f + 1, t, .agg ds => match partsOf P t with
    | some l => if tilesB P 0 l (P.cellsOf t) then flatAll (flatD P f) l ds else none
    | none => none
  | _ + 1, _, _ => none

theorem flat_cells {P : Program} {F : TypeId → DataW Unit → Option (List Value)} {cs : List Value} : ∀ (l : List (TypeId × Nat)) (ds : List (DataW Unit)) (o e : Nat) (vs : List Value), tilesB P o l e = true →
    (∀ (i : Nat) x d a, l[i]? = some x → ds[i]? = some d → F x.1 d = some a → (cs.drop x.2).take (P.cellsOf x.1) = a) → flatAll F l ds = some vs → o ≤ e ∧ (cs.drop o).take (e - o) = vs
  | [], [], o, e, vs, ht, _, hf => by
    simp only [tilesB, beq_iff_eq] at ht
    simp only [flatAll, Option.some.injEq] at hf
    subst ht hf
    exact ⟨Nat.le_refl _, by simp⟩
  | [], _ :: _, _, _, _, _, _, hf => by simp [flatAll] at hf
  | _ :: _, [], _, _, _, _, _, hf => by simp [flatAll] at hf
  | x :: r, d :: ds, o, e, vs, ht, hc, hf => by
    simp only [tilesB, Bool.and_eq_true, beq_iff_eq] at ht
    obtain ⟨h1, h2⟩ := ht
    simp only [flatAll] at hf
    split at hf
    · rename_i a b ha hb
      simp only [Option.some.injEq] at hf
      obtain ⟨i1, i2⟩ := flat_cells r ds (o + P.cellsOf x.1) e b h2 (fun i y d' a' hy hd => hc (i + 1) y d' a' (by simpa using hy) (by simpa using hd)) hb
      have hx := hc 0 x d a rfl rfl ha
      rw [h1] at hx
      refine ⟨by omega, ?_⟩
      rw [← hf, ← i2, ← hx, show e - o = P.cellsOf x.1 + (e - (o + P.cellsOf x.1)) by omega, List.take_add, List.drop_drop]
    · cases hf

theorem flat_of_trod {P : Program} {w : World} {sp : Nat → Bool} {held : Bool} {enc : TypeId × Value → Unit} : ∀ (f : Nat) (t : TypeId) (d : DataW Unit) (vs : List Value), flatD P f t d = some vs →
    ∀ (fuel : Nat) (cs : List Value) (p : List MemPlace), DataW.trod enc P w 0 sp held fuel t cs = some (d, p) → cs = vs
  | 0, _, _, _, h => by simp [flatD] at h
  | f + 1, t, d, vs, h => by
    intro fuel cs p hr
    cases d with
    | lit l =>
      simp only [flatD] at h
      split at h
      · rename_i k' k n hu
        obtain ⟨m, e1, e2, _⟩ := DataW.trod_int hu hr
        simp only [Prod.mk.injEq, DataW.lit.injEq, Lit.int.injEq] at e2
        obtain ⟨⟨rfl, rfl⟩, _⟩ := e2
        simp only [Option.some.injEq] at h
        rw [e1, h]
      · rename_i b hu
        obtain ⟨m, e1, e2⟩ := DataW.trod_bool hu hr
        simp only [Prod.mk.injEq, DataW.lit.injEq, Lit.bool.injEq] at e2
        obtain ⟨rfl, _⟩ := e2
        simp only [Option.some.injEq] at h
        rw [e1, h]
      · rename_i s hu
        obtain ⟨m, e1, e2, _⟩ := DataW.trod_string hu hr
        simp only [Prod.mk.injEq, DataW.lit.injEq, Lit.string.injEq] at e2
        obtain ⟨rfl, _⟩ := e2
        simp only [Option.some.injEq] at h
        rw [e1, ← h]
      · cases h
    | agg ds =>
      simp only [flatD] at h
      split at h
      · rename_i l hl
        split at h
        · rename_i htl
          unfold partsOf at hl
          split at hl
          · rename_i n e hu
            obtain ⟨xs, m, _, ex, hlen, hxl, hel⟩ := DataW.trod_array hu hr
            simp only [Prod.mk.injEq, DataW.agg.injEq] at ex
            obtain ⟨eds, _⟩ := ex
            simp only [Option.some.injEq] at hl
            subst hl
            obtain ⟨_, hh⟩ := flat_cells (cs := cs) _ ds 0 _ vs htl (fun i x d' a hx hd ha => by
              simp only [List.getElem?_map, Option.map_eq_some_iff] at hx
              obtain ⟨j, hj, rfl⟩ := hx
              obtain ⟨hj1, hj2⟩ := List.getElem?_eq_some_iff.1 hj
              simp only [List.length_range] at hj1
              simp only [List.getElem_range] at hj2
              subst hj2
              rw [eds, List.getElem?_map, Option.map_eq_some_iff] at hd
              obtain ⟨y, hy, rfl⟩ := hd
              have hi := hel i hj1
              rw [hy] at hi
              exact flat_of_trod f e y.1 a ha m _ y.2 hi) h
            rw [← hh, Nat.sub_zero, List.drop_zero, ← hlen, List.take_length]
          · rename_i fs hu
            obtain ⟨xs, m, _, ex, hlen, hxl, hel⟩ := DataW.trod_struct hu hr
            simp only [Prod.mk.injEq, DataW.agg.injEq] at ex
            obtain ⟨eds, _⟩ := ex
            simp only [Option.some.injEq] at hl
            subst hl
            obtain ⟨_, hh⟩ := flat_cells (cs := cs) _ ds 0 _ vs htl (fun i x d' a hx hd ha => by
              simp only [List.getElem?_map, Option.map_eq_some_iff, Array.getElem?_toList] at hx
              obtain ⟨g, hg, rfl⟩ := hx
              rw [eds, List.getElem?_map, Option.map_eq_some_iff] at hd
              obtain ⟨y, hy, rfl⟩ := hd
              have hi := hel i g hg
              rw [hy] at hi
              exact flat_of_trod f g.type y.1 a ha m _ y.2 hi) h
            rw [← hh, Nat.sub_zero, List.drop_zero, ← hlen, List.take_length]
          · cases hl
        · cases h
      · cases h
    | _ => simp [flatD] at h

/-- The variable of that name holds just these cells. -/
theorem laid_row {P : Program} {w : World} {name : String} {d : DataW Unit} {g : Nat} {t : TypeId} {vs : List Value} (f : Nat) : ∀ {l : List (String × DataW Unit)} {ps : List MemPlace}, DataW.LaidVars P w l ps →
    (∀ b off, MemPlace.cell b off ∈ ps → ∃ c t, w.heap[b]? = some (.cells c t (0, 0))) → (name, d) ∈ l → P.globalNamed name = some g → (P.globals[g]?).map (·.type) = some t → flatD P f t d = some vs → vs ≠ [] →
    ∃ t', w.heap[g]? = some (.cells vs.toArray t' (0, 0))
  | [], _, _, _, hm, _, _, _, _ => by cases hm
  | (n, d') :: r, ps, hl, hrow, hm, hg, ht, hf, hne => by
    obtain ⟨g', t', cs, fuel, p, q, e1, e2, e3, e4, hr, rfl⟩ := hl
    rcases List.mem_cons.1 hm with hm | hm
    · simp only [Prod.mk.injEq] at hm
      obtain ⟨rfl, rfl⟩ := hm
      obtain rfl : g = g' := Option.some.inj (hg.symm.trans e1)
      obtain rfl : t = t' := Option.some.inj (ht.symm.trans e2)
      have hcs := flat_of_trod f t d vs hf fuel cs.toList p e4
      have hsz : 0 < cs.size := by
        rcases Nat.eq_zero_or_pos cs.size with h | h
        · exact absurd (by rw [← hcs]; simpa using h) hne
        · exact h
      obtain ⟨c, u, hc⟩ := hrow g 0 (by simp only [List.mem_append]; left; left; unfold MemPlace.row; exact List.mem_map.2 ⟨0, by simpa using hsz, rfl⟩)
      simp only [World.var?, hg, Option.bind_some, hc, Option.some.injEq] at e3
      exact ⟨u, by rw [hc, e3, ← hcs]⟩
    · exact laid_row f hr (fun b off h => hrow b off (by simp only [List.mem_append]; right; exact h)) hm hg ht hf hne
/-- The cells of the list's i-th variable, which is global g. -/
def laidVs (P : Program) (l : List (String × DataW Unit)) (f i g : Nat) : Option (List Value) :=
  match (l.filter fun x => x.2.handleName?.isNone)[i]?, (P.globals[g]?).map (·.type) with
  | some x, some t => if P.globalNamed x.1 = some g then flatD P f t x.2 else none
  | _, _ => none
/-- f: more than the nesting's depth; i: the variable's place on the row's list; g: its number. One closed fact. -/
theorem laid_cells {P : Program} {w : World} {l : List (String × DataW Unit)} (h : laidMetH P l w) (f i g : Nat) {vs : List Value} (hf : laidVs P l f i g = some vs) (hne : vs ≠ []) : ∃ t', w.heap[g]? = some (.cells vs.toArray t' (0, 0)) := by
  obtain ⟨ps, hl, _, hrows⟩ := (laidMetH_iff.1 h).1
  unfold laidVs at hf
  split at hf
  · rename_i x t hx ht
    split at hf
    · rename_i hg
      exact laid_row f hl (fun b off hp => (hrows b off hp).1) (List.mem_of_getElem? hx) hg ht hf hne
    · cases hf
  · cases hf
end Go.Proofs.YtmdfgkfimlmmnaaDoor
namespace Go.Proofs
open Go.Shelf
def Tryd.laysM171_ren : Go.Shelf.Ren := ⟨fun | 171 => 29 | 243 => 52 | 246 => 68 | 283 => 77 | 284 => 78 | 285 => 79 | 286 => 80 | 129 => 93 | 317 => 92 | 318 => 94 | 319 => 95 | 320 => 96 | 337 => 105 | 338 => 106 | n => n, fun | 3 => 3 | 9 => 9 | 2 => 2 | 4 => 4 | 171 => 106 | 0 => 0 | 53 => 107 | 37 => 87 | 5 => 5 | 173 => 110 | 212 => 123 | 51 => 124 | 20 => 20 | 213 => 125 | 46 => 40 | 232 => 142 | 233 => 143 | n => n, fun | 17 => 3 | 18 => 4 | 19 => 5 | n => n⟩
theorem Tryd.laysM171 : Go.Proofs.LaysM.n171 Tryd.prog Tryd.laysM171_ren := {
  mixed := by kernel_rfl
  f129 := Tryd.func93.trans (congrArg some (by kernel_rfl))
  f171 := Tryd.func29.trans (congrArg some (by kernel_rfl))
  f243 := Tryd.func52.trans (congrArg some (by kernel_rfl))
  f246 := Tryd.func68.trans (congrArg some (by kernel_rfl))
  f283 := Tryd.func77.trans (congrArg some (by kernel_rfl))
  f284 := Tryd.func78.trans (congrArg some (by kernel_rfl))
  f285 := Tryd.func79.trans (congrArg some (by kernel_rfl))
  f286 := Tryd.func80.trans (congrArg some (by kernel_rfl))
  f317 := Tryd.func92.trans (congrArg some (by kernel_rfl))
  f318 := Tryd.func94.trans (congrArg some (by kernel_rfl))
  f319 := Tryd.func95.trans (congrArg some (by kernel_rfl))
  f320 := Tryd.func96.trans (congrArg some (by kernel_rfl))
  f337 := Tryd.func105.trans (congrArg some (by kernel_rfl))
  f338 := Tryd.func106.trans (congrArg some (by kernel_rfl))
  t0 := Tryd.underlying0
  a0 := Tryd.isAgg0
  z0 := Tryd.sizeOf0
  v0 := Tryd.zeroValue0
  t2 := Tryd.underlying2
  a2 := Tryd.isAgg2
  z2 := Tryd.sizeOf2
  v2 := Tryd.zeroValue2
  t3 := Tryd.underlying3
  a3 := Tryd.isAgg3
  z3 := Tryd.sizeOf3
  v3 := Tryd.zeroValue3
  t4 := Tryd.underlying4
  a4 := Tryd.isAgg4
  z4 := Tryd.sizeOf4
  v4 := Tryd.zeroValue4
  t5 := Tryd.underlying5
  a5 := Tryd.isAgg5
  z5 := Tryd.sizeOf5
  v5 := Tryd.zeroValue5
  t9 := Tryd.underlying9
  a9 := Tryd.isAgg9
  z9 := Tryd.sizeOf9
  v9 := Tryd.zeroValue9
  t20 := Tryd.underlying20
  a20 := Tryd.isAgg20
  z20 := Tryd.sizeOf20
  v20 := Tryd.zeroValue20
  t37 := Tryd.underlying87
  a37 := Tryd.isAgg87
  z37 := Tryd.sizeOf87
  v37 := Tryd.zeroValue87
  t46 := Tryd.underlying40
  a46 := Tryd.isAgg40
  z46 := Tryd.sizeOf40
  v46 := Tryd.zeroValue40
  t51 := Tryd.underlying124
  a51 := Tryd.isAgg124
  z51 := Tryd.sizeOf124
  v51 := Tryd.zeroValue124
  t53 := Tryd.underlying107
  a53 := Tryd.isAgg107
  z53 := Tryd.sizeOf107
  v53 := Tryd.zeroValue107
  t171 := Tryd.underlying106
  a171 := Tryd.isAgg106
  z171 := Tryd.sizeOf106
  v171 := Tryd.zeroValue106
  t173 := Tryd.underlying110
  a173 := Tryd.isAgg110
  z173 := Tryd.sizeOf110
  v173 := Tryd.zeroValue110
  t212 := Tryd.underlying123
  a212 := Tryd.isAgg123
  z212 := Tryd.sizeOf123
  v212 := Tryd.zeroValue123
  t213 := Tryd.underlying125
  a213 := Tryd.isAgg125
  z213 := Tryd.sizeOf125
  t232 := Tryd.underlying142
  a232 := Tryd.isAgg142
  z232 := Tryd.sizeOf142
  v232 := Tryd.zeroValue142
  t233 := Tryd.underlying143
  a233 := Tryd.isAgg143
  z233 := Tryd.sizeOf143
  v233 := Tryd.zeroValue143
  g17 := by kernel_rfl
  g18 := by kernel_rfl
  g19 := by kernel_rfl
  i0 := by kernel_rfl
  i2 := by kernel_rfl
  i3 := by kernel_rfl
  i4 := by kernel_rfl
  i5 := by kernel_rfl
  i9 := by kernel_rfl
  i20 := by kernel_rfl
  i37 := by kernel_rfl
  i46 := by kernel_rfl
  i51 := by kernel_rfl
  i53 := by kernel_rfl
  i171 := by kernel_rfl
  i173 := by kernel_rfl
  i212 := by kernel_rfl
  i232 := by kernel_rfl
  i233 := by kernel_rfl
  m17 := by kernel_rfl
  m18 := by kernel_rfl
  m19 := by kernel_rfl }
open Go.RowKit Go.Sort Go.Lib in
theorem Tryd.strconv_Itoa (n : Int) (h0 : -9223372036854775808 ≤ n) (h1 : n ≤ 9223372036854775807) (w : World) (htab : Lib.TabIs Tryd.prog w "internal/strconv.uint64pow10" .u64 Lib.pow10Tab) :
    Calls Tryd.prog 29 #[.int .i64 n] w fun e w' => e = .returned (.string ⟨(Lib.itoa n).toArray⟩) ∧ ∃ k os, w' = grow (w.drewN k) os := Any.strconv_Itoa Tryd.laysM171 n h0 h1 w htab
def Tryd.laysC172_ren : Go.Shelf.Ren := ⟨fun | 172 => 38 | 244 => 61 | 245 => 62 | 247 => 72 | 279 => 73 | 280 => 74 | 281 => 75 | 282 => 76 | 287 => 89 | 316 => 90 | 171 => 29 | 205 => 91 | 321 => 103 | 322 => 104 | 243 => 52 | 246 => 68 | 283 => 77 | 284 => 78 | 285 => 79 | 286 => 80 | 129 => 93 | 317 => 92 | 318 => 94 | 319 => 95 | 320 => 96 | 337 => 105 | 338 => 106 | n => n, fun | 9 => 9 | 3 => 3 | 75 => 29 | 76 => 72 | 4 => 4 | 5 => 5 | 167 => 100 | 37 => 87 | 0 => 0 | 85 => 101 | 2 => 2 | 168 => 103 | 53 => 107 | 175 => 116 | 46 => 40 | 210 => 120 | 127 => 137 | 145 => 140 | 143 => 138 | 21 => 21 | 171 => 106 | 173 => 110 | 212 => 123 | 51 => 124 | 20 => 20 | 213 => 125 | 232 => 142 | 233 => 143 | 80 => 144 | n => n, fun | 15 => 1 | 16 => 2 | 17 => 3 | 18 => 4 | 19 => 5 | n => n⟩
theorem Tryd.laysC172 : Go.Proofs.LaysC.n172 Tryd.prog Tryd.laysC172_ren := {
  mixed := by kernel_rfl
  f129 := Tryd.func93.trans (congrArg some (by kernel_rfl))
  f171 := Tryd.func29.trans (congrArg some (by kernel_rfl))
  f172 := Tryd.func38.trans (congrArg some (by kernel_rfl))
  f205 := Tryd.func91.trans (congrArg some (by kernel_rfl))
  f243 := Tryd.func52.trans (congrArg some (by kernel_rfl))
  f244 := Tryd.func61.trans (congrArg some (by kernel_rfl))
  f245 := Tryd.func62.trans (congrArg some (by kernel_rfl))
  f246 := Tryd.func68.trans (congrArg some (by kernel_rfl))
  f247 := Tryd.func72.trans (congrArg some (by kernel_rfl))
  f279 := Tryd.func73.trans (congrArg some (by kernel_rfl))
  f280 := Tryd.func74.trans (congrArg some (by kernel_rfl))
  f281 := Tryd.func75.trans (congrArg some (by kernel_rfl))
  f282 := Tryd.func76.trans (congrArg some (by kernel_rfl))
  f283 := Tryd.func77.trans (congrArg some (by kernel_rfl))
  f284 := Tryd.func78.trans (congrArg some (by kernel_rfl))
  f285 := Tryd.func79.trans (congrArg some (by kernel_rfl))
  f286 := Tryd.func80.trans (congrArg some (by kernel_rfl))
  f287 := Tryd.func89.trans (congrArg some (by kernel_rfl))
  f316 := Tryd.func90.trans (congrArg some (by kernel_rfl))
  f317 := Tryd.func92.trans (congrArg some (by kernel_rfl))
  f318 := Tryd.func94.trans (congrArg some (by kernel_rfl))
  f319 := Tryd.func95.trans (congrArg some (by kernel_rfl))
  f320 := Tryd.func96.trans (congrArg some (by kernel_rfl))
  f321 := Tryd.func103.trans (congrArg some (by kernel_rfl))
  f322 := Tryd.func104.trans (congrArg some (by kernel_rfl))
  f337 := Tryd.func105.trans (congrArg some (by kernel_rfl))
  f338 := Tryd.func106.trans (congrArg some (by kernel_rfl))
  t0 := Tryd.underlying0
  a0 := Tryd.isAgg0
  z0 := Tryd.sizeOf0
  v0 := Tryd.zeroValue0
  t2 := Tryd.underlying2
  a2 := Tryd.isAgg2
  z2 := Tryd.sizeOf2
  v2 := Tryd.zeroValue2
  t3 := Tryd.underlying3
  a3 := Tryd.isAgg3
  z3 := Tryd.sizeOf3
  v3 := Tryd.zeroValue3
  t4 := Tryd.underlying4
  a4 := Tryd.isAgg4
  z4 := Tryd.sizeOf4
  v4 := Tryd.zeroValue4
  t5 := Tryd.underlying5
  a5 := Tryd.isAgg5
  z5 := Tryd.sizeOf5
  v5 := Tryd.zeroValue5
  t9 := Tryd.underlying9
  a9 := Tryd.isAgg9
  z9 := Tryd.sizeOf9
  v9 := Tryd.zeroValue9
  t20 := Tryd.underlying20
  a20 := Tryd.isAgg20
  z20 := Tryd.sizeOf20
  v20 := Tryd.zeroValue20
  t21 := Tryd.underlying21
  a21 := Tryd.isAgg21
  z21 := Tryd.sizeOf21
  v21 := Tryd.zeroValue21
  t37 := Tryd.underlying87
  a37 := Tryd.isAgg87
  z37 := Tryd.sizeOf87
  v37 := Tryd.zeroValue87
  t46 := Tryd.underlying40
  a46 := Tryd.isAgg40
  z46 := Tryd.sizeOf40
  v46 := Tryd.zeroValue40
  t51 := Tryd.underlying124
  a51 := Tryd.isAgg124
  z51 := Tryd.sizeOf124
  v51 := Tryd.zeroValue124
  t53 := Tryd.underlying107
  a53 := Tryd.isAgg107
  z53 := Tryd.sizeOf107
  v53 := Tryd.zeroValue107
  t75 := Tryd.underlying29
  a75 := Tryd.isAgg29
  z75 := Tryd.sizeOf29
  v75 := Tryd.zeroValue29
  t76 := Tryd.underlying72
  a76 := Tryd.isAgg72
  z76 := Tryd.sizeOf72
  v76 := Tryd.zeroValue72
  t85 := Tryd.underlying101
  a85 := Tryd.isAgg101
  z85 := Tryd.sizeOf101
  v85 := Tryd.zeroValue101
  t127 := Tryd.underlying137
  a127 := Tryd.isAgg137
  z127 := Tryd.sizeOf137
  v127 := Tryd.zeroValue137
  t143 := Tryd.underlying138
  a143 := Tryd.isAgg138
  z143 := Tryd.sizeOf138
  v143 := Tryd.zeroValue138
  t145 := Tryd.underlying140
  a145 := Tryd.isAgg140
  z145 := Tryd.sizeOf140
  v145 := Tryd.zeroValue140
  t167 := Tryd.underlying100
  a167 := Tryd.isAgg100
  z167 := Tryd.sizeOf100
  v167 := Tryd.zeroValue100
  t168 := Tryd.underlying103
  a168 := Tryd.isAgg103
  z168 := Tryd.sizeOf103
  v168 := Tryd.zeroValue103
  t171 := Tryd.underlying106
  a171 := Tryd.isAgg106
  z171 := Tryd.sizeOf106
  v171 := Tryd.zeroValue106
  t173 := Tryd.underlying110
  a173 := Tryd.isAgg110
  z173 := Tryd.sizeOf110
  v173 := Tryd.zeroValue110
  t175 := Tryd.underlying116
  a175 := Tryd.isAgg116
  z175 := Tryd.sizeOf116
  v175 := Tryd.zeroValue116
  t210 := Tryd.underlying120
  a210 := Tryd.isAgg120
  z210 := Tryd.sizeOf120
  v210 := Tryd.zeroValue120
  t212 := Tryd.underlying123
  a212 := Tryd.isAgg123
  z212 := Tryd.sizeOf123
  v212 := Tryd.zeroValue123
  t213 := Tryd.underlying125
  a213 := Tryd.isAgg125
  z213 := Tryd.sizeOf125
  t232 := Tryd.underlying142
  a232 := Tryd.isAgg142
  z232 := Tryd.sizeOf142
  v232 := Tryd.zeroValue142
  t233 := Tryd.underlying143
  a233 := Tryd.isAgg143
  z233 := Tryd.sizeOf143
  v233 := Tryd.zeroValue143
  g15 := by kernel_rfl
  g16 := by kernel_rfl
  g17 := by kernel_rfl
  g18 := by kernel_rfl
  g19 := by kernel_rfl
  t80 := Tryd.underlying144
  a80 := Tryd.isAgg144
  z80 := Tryd.sizeOf144
  v80 := Tryd.zeroValue144
  i0 := by kernel_rfl
  i2 := by kernel_rfl
  i3 := by kernel_rfl
  i4 := by kernel_rfl
  i5 := by kernel_rfl
  i9 := by kernel_rfl
  i20 := by kernel_rfl
  i21 := by kernel_rfl
  i37 := by kernel_rfl
  i46 := by kernel_rfl
  i51 := by kernel_rfl
  i53 := by kernel_rfl
  i75 := by kernel_rfl
  i76 := by kernel_rfl
  i80 := by kernel_rfl
  i85 := by kernel_rfl
  i127 := by kernel_rfl
  i143 := by kernel_rfl
  i145 := by kernel_rfl
  i167 := by kernel_rfl
  i168 := by kernel_rfl
  i171 := by kernel_rfl
  i173 := by kernel_rfl
  i175 := by kernel_rfl
  i210 := by kernel_rfl
  i212 := by kernel_rfl
  i232 := by kernel_rfl
  i233 := by kernel_rfl
  m15 := by kernel_rfl
  m16 := by kernel_rfl
  m17 := by kernel_rfl
  m18 := by kernel_rfl
  m19 := by kernel_rfl
  c0 := by kernel_rfl
  c2 := by kernel_rfl
  c3 := by kernel_rfl
  c4 := by kernel_rfl
  c5 := by kernel_rfl
  c9 := by kernel_rfl
  c20 := by kernel_rfl
  c21 := by kernel_rfl
  c37 := by kernel_rfl
  c46 := by kernel_rfl
  c51 := by kernel_rfl
  c53 := by kernel_rfl
  c75 := by kernel_rfl
  c76 := by kernel_rfl
  c80 := by kernel_rfl
  c85 := by kernel_rfl
  c127 := by kernel_rfl
  c143 := by kernel_rfl
  c145 := by kernel_rfl
  c167 := by kernel_rfl
  c168 := by kernel_rfl
  c171 := by kernel_rfl
  c173 := by kernel_rfl
  c175 := by kernel_rfl
  c210 := by kernel_rfl
  c212 := by kernel_rfl
  c213 := by kernel_rfl
  c232 := by kernel_rfl
  c233 := by kernel_rfl }
open Go.RowKit in
theorem Tryd.strconv_Atoi_ok (s : ByteArray) (hmax : s.size ≤ 9223372036854775806) (v : Int) (h : Lib.atoiAll s.data.toList = .ok v) (w : World) :
    Calls Tryd.prog 38 #[.string s] w fun e w' => e = .returned (.tuple #[.int .i64 v, .nilIface]) ∧ (w' = w ∨ ∃ t, w' = Lib.bytesWorld w 5 t) := Any.strconv_Atoi_ok Tryd.laysC172 s hmax v h w
open Go.RowKit in
theorem Tryd.strconv_Atoi_range (s : ByteArray) (hlim : s.size ≤ 281474976710656) (h : Lib.atoiAll s.data.toList = .range) (ev : Value) (w : World) (hv : w.cell? ⟨2, 0, none⟩ = some ev) (hev : ev = .nilIface ∨ ∃ te pe, ev = .iface te pe) :
    Calls Tryd.prog 38 #[.string s] w fun e w' => ∃ N, e = .returned (.tuple #[.int .i64 (Lib.atoiSat s.data.toList), .iface 103 (.pointer (some ⟨N, 0, none⟩))]) ∧ w.heap.size ≤ N ∧ w'.heap[N]? = some (.cells #[.string ⟨#[65, 116, 111, 105]⟩, .string s, ev] 120 (0, 0)) ∧ Below w.heap.size w w' := Any.strconv_Atoi_range Tryd.laysC172 s hlim h ev w hv hev
def Tryd.lays145_ren : Go.Shelf.Ren := ⟨fun | 145 => 37 | 220 => 60 | 219 => 71 | 217 => 85 | 225 => 86 | 224 => 87 | 267 => 88 | 266 => 101 | 314 => 102 | n => n, fun | 9 => 9 | 4 => 4 | 59 => 70 | 3 => 3 | 5 => 5 | 46 => 40 | 146 => 134 | 51 => 124 | n => n, fun | 1 => 0 | n => n⟩
theorem Tryd.lays145 : Go.Proofs.Lays.n145 Tryd.prog Tryd.lays145_ren := {
  mixed := by kernel_rfl
  f145 := Tryd.func37.trans (congrArg some (by kernel_rfl))
  f217 := Tryd.func85.trans (congrArg some (by kernel_rfl))
  f219 := Tryd.func71.trans (congrArg some (by kernel_rfl))
  f220 := Tryd.func60.trans (congrArg some (by kernel_rfl))
  f224 := Tryd.func87.trans (congrArg some (by kernel_rfl))
  f225 := Tryd.func86.trans (congrArg some (by kernel_rfl))
  f266 := Tryd.func101.trans (congrArg some (by kernel_rfl))
  f267 := Tryd.func88.trans (congrArg some (by kernel_rfl))
  f314 := Tryd.func102.trans (congrArg some (by kernel_rfl))
  t3 := Tryd.underlying3
  a3 := Tryd.isAgg3
  z3 := Tryd.sizeOf3
  v3 := Tryd.zeroValue3
  t4 := Tryd.underlying4
  a4 := Tryd.isAgg4
  z4 := Tryd.sizeOf4
  v4 := Tryd.zeroValue4
  t5 := Tryd.underlying5
  a5 := Tryd.isAgg5
  z5 := Tryd.sizeOf5
  v5 := Tryd.zeroValue5
  t9 := Tryd.underlying9
  a9 := Tryd.isAgg9
  z9 := Tryd.sizeOf9
  v9 := Tryd.zeroValue9
  t46 := Tryd.underlying40
  a46 := Tryd.isAgg40
  z46 := Tryd.sizeOf40
  v46 := Tryd.zeroValue40
  t51 := Tryd.underlying124
  a51 := Tryd.isAgg124
  z51 := Tryd.sizeOf124
  v51 := Tryd.zeroValue124
  t59 := Tryd.underlying70
  a59 := Tryd.isAgg70
  z59 := Tryd.sizeOf70
  v59 := Tryd.zeroValue70
  t146 := Tryd.underlying134
  a146 := Tryd.isAgg134
  z146 := Tryd.sizeOf134
  v146 := Tryd.zeroValue134
  g1 := by kernel_rfl }
open Go.RowKit Go.Lib in
theorem Tryd.strings_Cut (s sep : ByteArray) (m : Int) (w : World) (hs : s.size < 4294967281) (hm : w.cell? ⟨0, 0, none⟩ = some (.int .i64 m)) :
    Calls Tryd.prog 37 #[.string s, .string sep] w fun e w' => e = .returned (.tuple #[.string ⟨(Lib.cut s.data.toList sep.data.toList).1.toArray⟩, .string ⟨(Lib.cut s.data.toList sep.data.toList).2.1.toArray⟩, .bool (Lib.cut s.data.toList sep.data.toList).2.2]) ∧ ∃ n, w' = w.drewN n := Any.strings_Cut Tryd.lays145 s sep m w hs hm
end Go.Proofs
namespace Go.Proofs.YtmdfgkfimlmmnaaDoor
open Go.RowKit Ex Mx Wx
def pow10V : List Value := Lib.pow10Tab.map (Value.int .u64)
/-- The table of powers of ten stands there. -/
def TabT (z : World) : Prop := ∃ t, z.heap[3]? = some (.cells pow10V.toArray t (0, 0))
theorem TabT.keep {z w : World} (h : TabT z) (hb : Below z.heap.size z w) : TabT w := by
  obtain ⟨t, ht⟩ := h
  exact ⟨t, (hb.block _ (Array.getElem?_eq_some_iff.1 ht).1).trans ht⟩
theorem TabT.is {w : World} (h : TabT w) : Lib.TabIs Tryd.prog w "internal/strconv.uint64pow10" .u64 Lib.pow10Tab := by
  obtain ⟨t, ht⟩ := h
  have hg : Tryd.prog.globalNamed "internal/strconv.uint64pow10" = some 3 := by kernel_rfl
  unfold Lib.TabIs
  simp only [World.var?, hg, Option.bind_some, ht]
  rfl
open Go.Sort in
theorem below_grow (w : World) (k : Nat) (os : Array Obj) : Below w.heap.size w (grow (w.drewN k) os) :=
  ⟨rfl, rfl, rfl, by simp [grow], fun g hg => by simp only [grow]; rw [Array.getElem?_append_left (by exact hg)]; rfl⟩
theorem dig_fig : ∀ (n : Nat), n < 1000 → (⟨(Lib.decDigits n).toArray⟩ : ByteArray) = strOfNums (figN n) := by
  intro n
  induction n using Nat.strongRecOn with
  | ind n ih =>
    intro h
    by_cases h10 : n < 10
    · rw [Lib.decDigits, dif_pos h10, show figN n = [((48 + n : Nat) : Int)] from if_pos h10]
      rfl
    · rw [Lib.decDigits, dif_neg h10, figN_step (by omega) h, ← str_append, ← ih (n / 10) (by omega) (by omega), show strOfNums [((48 + n % 10 : Nat) : Int)] = ⟨#[UInt8.ofNat (48 + n % 10)]⟩ from rfl, mk_append]
      simp
theorem itoa_any {z : World} (T : TabT z) (n : Nat) (hn : n < 1000) (w : World) (hz : Below z.heap.size z w) : Calls Tryd.prog 29 #[.int .i64 n] w fun e w' => e = .returned (.string (strOfNums (figN n))) ∧ Below w.heap.size w w' := by
  refine (Tryd.strconv_Itoa (n : Int) (by omega) (by omega) w (T.keep hz).is).mono ?_
  rintro e w' ⟨rfl, k, os, rfl⟩
  refine ⟨?_, below_grow _ _ _⟩
  unfold Lib.itoa
  rw [if_neg (by omega), Int.toNat_natCast, dig_fig n hn]
theorem pow10_ne : pow10V ≠ [] := by
  intro h
  have := congrArg List.length h
  simp [pow10V, Lib.pow10Tab_length] at this
end Go.Proofs.YtmdfgkfimlmmnaaDoor
namespace Go.Proofs.YtmdfgkfimlmmnaaDoor
open Go.RowKit Ex Mx
set_option maxRecDepth 100000
theorem wide_any {j : Nat} {x : Int} (h : In64 x) : Wide (updI noC j x) := fun i _ => by
  unfold updI noC
  split
  · exact h
  · simp
/-- What a call that makes a card answers: it reads as c in blocks of the call's own. -/
def CardR (c : CardT) (w : World) (e : Ending) (w' : World) : Prop := ∃ cs, e = .returned (.agg cs) ∧ ReadsCQ (fun b => w.heap.size ≤ b ∧ b < w'.heap.size) w' 2 cs c ∧ Below w.heap.size w w'
theorem card_end {fn : Func} {w W : World} {ac : Act} {p : Tmp} {cs : Array Value} {c c' : CardT} (hf : fn.results = #[.cell p 27]) (hp : ac.tmps.getD p undef = .pointer (some ⟨w.heap.size, 0, none⟩)) (hd : ac.defers = []) {l : List (Array Value × ET)} (h : EAcc w zeroD 27 W l)
    (hr : ReadsCQ (fun b => w.heap.size + 1 ≤ b ∧ b < W.heap.size) W 2 cs c') (hc : c' = c) : bodyPost Tryd.prog fn (CardR c w) .ret ac (W.setRow w.heap.size cs) := by
  subst hc
  refine bodyPost_ret (v := .agg cs) ?_ hd ⟨cs, rfl, hr.keep (fun b hq => setRow_other _ _ _ _ (by omega)) (fun b hq => ⟨by omega, by rw [setRow_size]; exact hq.2⟩), below_setRow h.b _ _ (Nat.le_refl _)⟩
  exact results_cell_one hf _ _ w.heap.size 27 _ (0, 0) _ hp (setRow_heap _ _ _ _ _ _ h.z) Tryd.underlying27 rfl (cq_info hr)
theorem single_100 (w : World) : Calls Tryd.prog 50 #[.int .i64 100] w (CardR (tblC 100) w) := by
  go_enter Tryd.func50, Tryd.ntmps50
  go_upto_region 1 with fail
  obtain ⟨w0, hw⟩ : ∃ W, W = w.alloc (.cells zeroD 27) := ⟨_, rfl⟩
  have hacc : EAcc w zeroD 27 w0 [] := by rw [hw]; exact ⟨(Below.refl _ _).alloc (Nat.le_refl _) _, heap_alloc_new _ _, by simp⟩
  rw [← hw]
  clear hw
  go_wp2_with (first
    | (go_at_call 42; refine (mk_effect _ _ _ _ _).mono ?_; rintro e w' ⟨rfl, hb'⟩; replace hacc := hacc.step hb'; clear hb')
    | (go_at_call 64; refine (mk_spell _ _ _ _ _ _ _ _ _).mono ?_; rintro e w' ⟨rfl, hb'⟩; replace hacc := hacc.step hb'; clear hb')
    | (go_at_call 41; refine (mk_at _ _ _ _ _ _ _ _ _).mono ?_; rintro e w' ⟨rfl, hb'⟩; replace hacc := hacc.step hb'; clear hb')
    | (go_at_call 46; refine (mk_price 5 _ _ _ (by decide) (by decide) (by decide) (by decide) (by decide)).mono ?_; rintro e w' ⟨rfl, hb'⟩; replace hacc := hacc.step hb'; clear hb')
    | (go_at_call 65; refine (mk_all _ _ _ _ _ ⟨by decide, by decide⟩ ⟨by decide, by decide⟩ ⟨by decide, by decide⟩ ⟨by decide, by decide⟩).mono ?_; rintro e w' ⟨A', c', rfl, hr', hb'⟩; replace hacc := hacc.snoc hb' hr'; clear hb' hr'))
  refine (mk_magic _ _ _ ⟨0, noC, false, 0, .node 18 0 0 0 []⟩ _ (w.heap.size + 1) _ hacc.lt ⟨by decide, by decide⟩ (by rw [price_any]; exact wide_any ⟨by decide, by decide⟩) (flatS (a := ⟨0, noC, false, 0, .node 18 0 0 0 []⟩) _ _ _ _ _ _ _ _ ⟨by decide, by decide⟩ wide_no ⟨by decide, by decide⟩ ⟨by decide, by decide⟩ ⟨by decide, by decide⟩ ⟨by decide, by decide⟩ ⟨by decide, by decide⟩ rfl)).mono ?_
  rintro e w9 ⟨cs, rfl, hr, hb9⟩
  replace hacc := hacc.step hb9
  have hsx := cq_info hr
  have hcs := cq_size hr
  have h1 := cq_one hr
  go_wp2_with (refine wpList_store_row rfl 27 _ _ rfl w.heap.size cs rfl rfl 27 zeroD hacc.z hsx (by rw [hcs]; rfl) h1 ?_)
  exact card_end (p := 2) (by kernel_rfl) rfl rfl hacc hr (show (⟨2, 5, false, priceF 5 1 0, 0, 0, 0, [⟨0, noC, false, 0, .node 18 0 0 0 []⟩]⟩ : CardT) = _ by rw [price_any]; rfl)
theorem single_101 (w : World) : Calls Tryd.prog 50 #[.int .i64 101] w (CardR (tblC 101) w) := by
  go_enter Tryd.func50, Tryd.ntmps50
  go_upto_region 1 with fail
  obtain ⟨w0, hw⟩ : ∃ W, W = w.alloc (.cells zeroD 27) := ⟨_, rfl⟩
  have hacc : EAcc w zeroD 27 w0 [] := by rw [hw]; exact ⟨(Below.refl _ _).alloc (Nat.le_refl _) _, heap_alloc_new _ _, by simp⟩
  rw [← hw]
  clear hw
  go_wp2_with (first
    | (go_at_call 42; refine (mk_effect _ _ _ _ _).mono ?_; rintro e w' ⟨rfl, hb'⟩; replace hacc := hacc.step hb'; clear hb')
    | (go_at_call 64; refine (mk_spell _ _ _ _ _ _ _ _ _).mono ?_; rintro e w' ⟨rfl, hb'⟩; replace hacc := hacc.step hb'; clear hb')
    | (go_at_call 41; refine (mk_at _ _ _ _ _ _ _ _ _).mono ?_; rintro e w' ⟨rfl, hb'⟩; replace hacc := hacc.step hb'; clear hb')
    | (go_at_call 46; refine (mk_price 5 _ _ _ (by decide) (by decide) (by decide) (by decide) (by decide)).mono ?_; rintro e w' ⟨rfl, hb'⟩; replace hacc := hacc.step hb'; clear hb')
    | (go_at_call 65; refine (mk_all _ _ _ _ _ ⟨by decide, by decide⟩ ⟨by decide, by decide⟩ ⟨by decide, by decide⟩ ⟨by decide, by decide⟩).mono ?_; rintro e w' ⟨A', c', rfl, hr', hb'⟩; replace hacc := hacc.snoc hb' hr'; clear hb' hr'))
  refine (mk_magic _ _ _ ⟨0, noC, false, 0, .node 19 2 0 1 []⟩ _ (w.heap.size + 1) _ hacc.lt ⟨by decide, by decide⟩ (by rw [price_any]; exact wide_any ⟨by decide, by decide⟩) (flatS (a := ⟨0, noC, false, 0, .node 19 2 0 1 []⟩) _ _ _ _ _ _ _ _ ⟨by decide, by decide⟩ wide_no ⟨by decide, by decide⟩ ⟨by decide, by decide⟩ ⟨by decide, by decide⟩ ⟨by decide, by decide⟩ ⟨by decide, by decide⟩ rfl)).mono ?_
  rintro e w9 ⟨cs, rfl, hr, hb9⟩
  replace hacc := hacc.step hb9
  have hsx := cq_info hr
  have hcs := cq_size hr
  have h1 := cq_one hr
  go_wp2_with (refine wpList_store_row rfl 27 _ _ rfl w.heap.size cs rfl rfl 27 zeroD hacc.z hsx (by rw [hcs]; rfl) h1 ?_)
  exact card_end (p := 2) (by kernel_rfl) rfl rfl hacc hr (show (⟨2, 5, false, priceF 5 2 0, 0, 0, 0, [⟨0, noC, false, 0, .node 19 2 0 1 []⟩]⟩ : CardT) = _ by rw [price_any]; rfl)
theorem single_102 (w : World) : Calls Tryd.prog 50 #[.int .i64 102] w (CardR (tblC 102) w) := by
  go_enter Tryd.func50, Tryd.ntmps50
  go_upto_region 1 with fail
  obtain ⟨w0, hw⟩ : ∃ W, W = w.alloc (.cells zeroD 27) := ⟨_, rfl⟩
  have hacc : EAcc w zeroD 27 w0 [] := by rw [hw]; exact ⟨(Below.refl _ _).alloc (Nat.le_refl _) _, heap_alloc_new _ _, by simp⟩
  rw [← hw]
  clear hw
  go_wp2_with (first
    | (go_at_call 42; refine (mk_effect _ _ _ _ _).mono ?_; rintro e w' ⟨rfl, hb'⟩; replace hacc := hacc.step hb'; clear hb')
    | (go_at_call 64; refine (mk_spell _ _ _ _ _ _ _ _ _).mono ?_; rintro e w' ⟨rfl, hb'⟩; replace hacc := hacc.step hb'; clear hb')
    | (go_at_call 41; refine (mk_at _ _ _ _ _ _ _ _ _).mono ?_; rintro e w' ⟨rfl, hb'⟩; replace hacc := hacc.step hb'; clear hb')
    | (go_at_call 46; refine (mk_price 5 _ _ _ (by decide) (by decide) (by decide) (by decide) (by decide)).mono ?_; rintro e w' ⟨rfl, hb'⟩; replace hacc := hacc.step hb'; clear hb')
    | (go_at_call 65; refine (mk_all _ _ _ _ _ ⟨by decide, by decide⟩ ⟨by decide, by decide⟩ ⟨by decide, by decide⟩ ⟨by decide, by decide⟩).mono ?_; rintro e w' ⟨A', c', rfl, hr', hb'⟩; replace hacc := hacc.snoc hb' hr'; clear hb' hr'))
  refine (mk_magic _ _ _ ⟨0, noC, false, 0, .node 16 3 0 1 []⟩ _ (w.heap.size + 1) _ hacc.lt ⟨by decide, by decide⟩ (by rw [price_any]; exact wide_any ⟨by decide, by decide⟩) (flatS (a := ⟨0, noC, false, 0, .node 16 3 0 1 []⟩) _ _ _ _ _ _ _ _ ⟨by decide, by decide⟩ wide_no ⟨by decide, by decide⟩ ⟨by decide, by decide⟩ ⟨by decide, by decide⟩ ⟨by decide, by decide⟩ ⟨by decide, by decide⟩ rfl)).mono ?_
  rintro e w9 ⟨cs, rfl, hr, hb9⟩
  replace hacc := hacc.step hb9
  have hsx := cq_info hr
  have hcs := cq_size hr
  have h1 := cq_one hr
  go_wp2_with (refine wpList_store_row rfl 27 _ _ rfl w.heap.size cs rfl rfl 27 zeroD hacc.z hsx (by rw [hcs]; rfl) h1 ?_)
  exact card_end (p := 2) (by kernel_rfl) rfl rfl hacc hr (show (⟨2, 5, false, priceF 5 1 0, 0, 0, 0, [⟨0, noC, false, 0, .node 16 3 0 1 []⟩]⟩ : CardT) = _ by rw [price_any]; rfl)
theorem single_103 (w : World) : Calls Tryd.prog 50 #[.int .i64 103] w (CardR (tblC 103) w) := by
  go_enter Tryd.func50, Tryd.ntmps50
  go_upto_region 1 with fail
  obtain ⟨w0, hw⟩ : ∃ W, W = w.alloc (.cells zeroD 27) := ⟨_, rfl⟩
  have hacc : EAcc w zeroD 27 w0 [] := by rw [hw]; exact ⟨(Below.refl _ _).alloc (Nat.le_refl _) _, heap_alloc_new _ _, by simp⟩
  rw [← hw]
  clear hw
  go_wp2_with (first
    | (go_at_call 42; refine (mk_effect _ _ _ _ _).mono ?_; rintro e w' ⟨rfl, hb'⟩; replace hacc := hacc.step hb'; clear hb')
    | (go_at_call 64; refine (mk_spell _ _ _ _ _ _ _ _ _).mono ?_; rintro e w' ⟨rfl, hb'⟩; replace hacc := hacc.step hb'; clear hb')
    | (go_at_call 41; refine (mk_at _ _ _ _ _ _ _ _ _).mono ?_; rintro e w' ⟨rfl, hb'⟩; replace hacc := hacc.step hb'; clear hb')
    | (go_at_call 46; refine (mk_price 5 _ _ _ (by decide) (by decide) (by decide) (by decide) (by decide)).mono ?_; rintro e w' ⟨rfl, hb'⟩; replace hacc := hacc.step hb'; clear hb')
    | (go_at_call 65; refine (mk_all _ _ _ _ _ ⟨by decide, by decide⟩ ⟨by decide, by decide⟩ ⟨by decide, by decide⟩ ⟨by decide, by decide⟩).mono ?_; rintro e w' ⟨A', c', rfl, hr', hb'⟩; replace hacc := hacc.snoc hb' hr'; clear hb' hr'))
  refine (mk_magic _ _ _ ⟨0, noC, false, 0, .node 17 2 0 1 []⟩ _ (w.heap.size + 1) _ hacc.lt ⟨by decide, by decide⟩ (by rw [price_any]; exact wide_any ⟨by decide, by decide⟩) (flatS (a := ⟨0, noC, false, 0, .node 17 2 0 1 []⟩) _ _ _ _ _ _ _ _ ⟨by decide, by decide⟩ wide_no ⟨by decide, by decide⟩ ⟨by decide, by decide⟩ ⟨by decide, by decide⟩ ⟨by decide, by decide⟩ ⟨by decide, by decide⟩ rfl)).mono ?_
  rintro e w9 ⟨cs, rfl, hr, hb9⟩
  replace hacc := hacc.step hb9
  have hsx := cq_info hr
  have hcs := cq_size hr
  have h1 := cq_one hr
  go_wp2_with (refine wpList_store_row rfl 27 _ _ rfl w.heap.size cs rfl rfl 27 zeroD hacc.z hsx (by rw [hcs]; rfl) h1 ?_)
  exact card_end (p := 2) (by kernel_rfl) rfl rfl hacc hr (show (⟨2, 5, true, priceF 5 1 0, 0, 0, 0, [⟨0, noC, false, 0, .node 17 2 0 1 []⟩]⟩ : CardT) = _ by rw [price_any]; rfl)
theorem single_104 (w : World) : Calls Tryd.prog 50 #[.int .i64 104] w (CardR (tblC 104) w) := by
  go_enter Tryd.func50, Tryd.ntmps50
  go_upto_region 1 with fail
  obtain ⟨w0, hw⟩ : ∃ W, W = w.alloc (.cells zeroD 27) := ⟨_, rfl⟩
  have hacc : EAcc w zeroD 27 w0 [] := by rw [hw]; exact ⟨(Below.refl _ _).alloc (Nat.le_refl _) _, heap_alloc_new _ _, by simp⟩
  rw [← hw]
  clear hw
  go_wp2_with (first
    | (go_at_call 42; refine (mk_effect _ _ _ _ _).mono ?_; rintro e w' ⟨rfl, hb'⟩; replace hacc := hacc.step hb'; clear hb')
    | (go_at_call 64; refine (mk_spell _ _ _ _ _ _ _ _ _).mono ?_; rintro e w' ⟨rfl, hb'⟩; replace hacc := hacc.step hb'; clear hb')
    | (go_at_call 41; refine (mk_at _ _ _ _ _ _ _ _ _).mono ?_; rintro e w' ⟨rfl, hb'⟩; replace hacc := hacc.step hb'; clear hb')
    | (go_at_call 46; refine (mk_price 5 _ _ _ (by decide) (by decide) (by decide) (by decide) (by decide)).mono ?_; rintro e w' ⟨rfl, hb'⟩; replace hacc := hacc.step hb'; clear hb')
    | (go_at_call 65; refine (mk_all _ _ _ _ _ ⟨by decide, by decide⟩ ⟨by decide, by decide⟩ ⟨by decide, by decide⟩ ⟨by decide, by decide⟩).mono ?_; rintro e w' ⟨A', c', rfl, hr', hb'⟩; replace hacc := hacc.snoc hb' hr'; clear hb' hr'))
  refine (mk_magic _ _ _ ⟨0, noC, false, 0, .node 5 3 0 4 []⟩ _ (w.heap.size + 1) _ hacc.lt ⟨by decide, by decide⟩ (by rw [price_any]; exact wide_any ⟨by decide, by decide⟩) (flatS (a := ⟨0, noC, false, 0, .node 5 3 0 4 []⟩) _ _ _ _ _ _ _ _ ⟨by decide, by decide⟩ wide_no ⟨by decide, by decide⟩ ⟨by decide, by decide⟩ ⟨by decide, by decide⟩ ⟨by decide, by decide⟩ ⟨by decide, by decide⟩ rfl)).mono ?_
  rintro e w9 ⟨cs, rfl, hr, hb9⟩
  replace hacc := hacc.step hb9
  have hsx := cq_info hr
  have hcs := cq_size hr
  have h1 := cq_one hr
  go_wp2_with (refine wpList_store_row rfl 27 _ _ rfl w.heap.size cs rfl rfl 27 zeroD hacc.z hsx (by rw [hcs]; rfl) h1 ?_)
  exact card_end (p := 2) (by kernel_rfl) rfl rfl hacc hr (show (⟨2, 5, false, priceF 5 2 0, 0, 0, 0, [⟨0, noC, false, 0, .node 5 3 0 4 []⟩]⟩ : CardT) = _ by rw [price_any]; rfl)
theorem single_105 (w : World) : Calls Tryd.prog 50 #[.int .i64 105] w (CardR (tblC 105) w) := by
  go_enter Tryd.func50, Tryd.ntmps50
  go_upto_region 1 with fail
  obtain ⟨w0, hw⟩ : ∃ W, W = w.alloc (.cells zeroD 27) := ⟨_, rfl⟩
  have hacc : EAcc w zeroD 27 w0 [] := by rw [hw]; exact ⟨(Below.refl _ _).alloc (Nat.le_refl _) _, heap_alloc_new _ _, by simp⟩
  rw [← hw]
  clear hw
  go_wp2_with (first
    | (go_at_call 42; refine (mk_effect _ _ _ _ _).mono ?_; rintro e w' ⟨rfl, hb'⟩; replace hacc := hacc.step hb'; clear hb')
    | (go_at_call 64; refine (mk_spell _ _ _ _ _ _ _ _ _).mono ?_; rintro e w' ⟨rfl, hb'⟩; replace hacc := hacc.step hb'; clear hb')
    | (go_at_call 41; refine (mk_at _ _ _ _ _ _ _ _ _).mono ?_; rintro e w' ⟨rfl, hb'⟩; replace hacc := hacc.step hb'; clear hb')
    | (go_at_call 46; refine (mk_price 5 _ _ _ (by decide) (by decide) (by decide) (by decide) (by decide)).mono ?_; rintro e w' ⟨rfl, hb'⟩; replace hacc := hacc.step hb'; clear hb')
    | (go_at_call 65; refine (mk_all _ _ _ _ _ ⟨by decide, by decide⟩ ⟨by decide, by decide⟩ ⟨by decide, by decide⟩ ⟨by decide, by decide⟩).mono ?_; rintro e w' ⟨A', c', rfl, hr', hb'⟩; replace hacc := hacc.snoc hb' hr'; clear hb' hr'))
  refine (mk_magic _ _ _ ⟨0, noC, false, 4, .node 9 0 0 2 []⟩ _ (w.heap.size + 1) _ hacc.lt ⟨by decide, by decide⟩ (by rw [price_any]; exact wide_any ⟨by decide, by decide⟩) (flatS (a := ⟨0, noC, false, 4, .node 9 0 0 2 []⟩) _ _ _ _ _ _ _ _ ⟨by decide, by decide⟩ wide_no ⟨by decide, by decide⟩ ⟨by decide, by decide⟩ ⟨by decide, by decide⟩ ⟨by decide, by decide⟩ ⟨by decide, by decide⟩ rfl)).mono ?_
  rintro e w9 ⟨cs, rfl, hr, hb9⟩
  replace hacc := hacc.step hb9
  have hsx := cq_info hr
  have hcs := cq_size hr
  have h1 := cq_one hr
  go_wp2_with (refine wpList_store_row rfl 27 _ _ rfl w.heap.size cs rfl rfl 27 zeroD hacc.z hsx (by rw [hcs]; rfl) h1 ?_)
  exact card_end (p := 2) (by kernel_rfl) rfl rfl hacc hr (show (⟨2, 5, true, priceF 5 3 0, 0, 0, 0, [⟨0, noC, false, 4, .node 9 0 0 2 []⟩]⟩ : CardT) = _ by rw [price_any]; rfl)
theorem single_106 (w : World) : Calls Tryd.prog 50 #[.int .i64 106] w (CardR (tblC 106) w) := by
  go_enter Tryd.func50, Tryd.ntmps50
  go_upto_region 1 with fail
  obtain ⟨w0, hw⟩ : ∃ W, W = w.alloc (.cells zeroD 27) := ⟨_, rfl⟩
  have hacc : EAcc w zeroD 27 w0 [] := by rw [hw]; exact ⟨(Below.refl _ _).alloc (Nat.le_refl _) _, heap_alloc_new _ _, by simp⟩
  rw [← hw]
  clear hw
  go_wp2_with (first
    | (go_at_call 42; refine (mk_effect _ _ _ _ _).mono ?_; rintro e w' ⟨rfl, hb'⟩; replace hacc := hacc.step hb'; clear hb')
    | (go_at_call 64; refine (mk_spell _ _ _ _ _ _ _ _ _).mono ?_; rintro e w' ⟨rfl, hb'⟩; replace hacc := hacc.step hb'; clear hb')
    | (go_at_call 41; refine (mk_at _ _ _ _ _ _ _ _ _).mono ?_; rintro e w' ⟨rfl, hb'⟩; replace hacc := hacc.step hb'; clear hb')
    | (go_at_call 46; refine (mk_price 5 _ _ _ (by decide) (by decide) (by decide) (by decide) (by decide)).mono ?_; rintro e w' ⟨rfl, hb'⟩; replace hacc := hacc.step hb'; clear hb')
    | (go_at_call 65; refine (mk_all _ _ _ _ _ ⟨by decide, by decide⟩ ⟨by decide, by decide⟩ ⟨by decide, by decide⟩ ⟨by decide, by decide⟩).mono ?_; rintro e w' ⟨A', c', rfl, hr', hb'⟩; replace hacc := hacc.snoc hb' hr'; clear hb' hr'))
  refine (mk_magic _ _ _ ⟨0, noC, false, 0, .node 20 0 0 0 [.node 7 0 0 2 []]⟩ _ (w.heap.size + 1) _ hacc.lt ⟨by decide, by decide⟩ (by rw [price_any]; exact wide_any ⟨by decide, by decide⟩) (ab_reads (a := ⟨0, noC, false, 0, .node 20 0 0 0 [.node 7 0 0 2 []]⟩) _ _ _ _ _ _ ⟨by decide, by decide⟩ wide_no ⟨by decide, by decide⟩ (hacc.get 0 rfl) rfl)).mono ?_
  rintro e w9 ⟨cs, rfl, hr, hb9⟩
  replace hacc := hacc.step hb9
  have hsx := cq_info hr
  have hcs := cq_size hr
  have h1 := cq_one hr
  go_wp2_with (refine wpList_store_row rfl 27 _ _ rfl w.heap.size cs rfl rfl 27 zeroD hacc.z hsx (by rw [hcs]; rfl) h1 ?_)
  exact card_end (p := 2) (by kernel_rfl) rfl rfl hacc hr (show (⟨2, 5, false, priceF 5 2 0, 0, 0, 0, [⟨0, noC, false, 0, .node 20 0 0 0 [.node 7 0 0 2 []]⟩]⟩ : CardT) = _ by rw [price_any]; rfl)
theorem single_109 (w : World) : Calls Tryd.prog 50 #[.int .i64 109] w (CardR (tblC 109) w) := by
  go_enter Tryd.func50, Tryd.ntmps50
  go_upto_region 1 with fail
  obtain ⟨w0, hw⟩ : ∃ W, W = w.alloc (.cells zeroD 27) := ⟨_, rfl⟩
  have hacc : EAcc w zeroD 27 w0 [] := by rw [hw]; exact ⟨(Below.refl _ _).alloc (Nat.le_refl _) _, heap_alloc_new _ _, by simp⟩
  rw [← hw]
  clear hw
  go_wp2_with (first
    | (go_at_call 42; refine (mk_effect _ _ _ _ _).mono ?_; rintro e w' ⟨rfl, hb'⟩; replace hacc := hacc.step hb'; clear hb')
    | (go_at_call 64; refine (mk_spell _ _ _ _ _ _ _ _ _).mono ?_; rintro e w' ⟨rfl, hb'⟩; replace hacc := hacc.step hb'; clear hb')
    | (go_at_call 41; refine (mk_at _ _ _ _ _ _ _ _ _).mono ?_; rintro e w' ⟨rfl, hb'⟩; replace hacc := hacc.step hb'; clear hb')
    | (go_at_call 46; refine (mk_price 5 _ _ _ (by decide) (by decide) (by decide) (by decide) (by decide)).mono ?_; rintro e w' ⟨rfl, hb'⟩; replace hacc := hacc.step hb'; clear hb')
    | (go_at_call 65; refine (mk_all _ _ _ _ _ ⟨by decide, by decide⟩ ⟨by decide, by decide⟩ ⟨by decide, by decide⟩ ⟨by decide, by decide⟩).mono ?_; rintro e w' ⟨A', c', rfl, hr', hb'⟩; replace hacc := hacc.snoc hb' hr'; clear hb' hr'))
  refine (mk_magic _ _ _ ⟨0, noC, false, 0, .node 14 2 112 0 []⟩ _ (w.heap.size + 1) _ hacc.lt ⟨by decide, by decide⟩ (by rw [price_any]; exact wide_any ⟨by decide, by decide⟩) (flatS (a := ⟨0, noC, false, 0, .node 14 2 112 0 []⟩) _ _ _ _ _ _ _ _ ⟨by decide, by decide⟩ wide_no ⟨by decide, by decide⟩ ⟨by decide, by decide⟩ ⟨by decide, by decide⟩ ⟨by decide, by decide⟩ ⟨by decide, by decide⟩ rfl)).mono ?_
  rintro e w9 ⟨cs, rfl, hr, hb9⟩
  replace hacc := hacc.step hb9
  have hsx := cq_info hr
  have hcs := cq_size hr
  have h1 := cq_one hr
  go_wp2_with (refine wpList_store_row rfl 27 _ _ rfl w.heap.size cs rfl rfl 27 zeroD hacc.z hsx (by rw [hcs]; rfl) h1 ?_)
  exact card_end (p := 2) (by kernel_rfl) rfl rfl hacc hr (show (⟨2, 5, false, priceF 5 3 0, 0, 0, 0, [⟨0, noC, false, 0, .node 14 2 112 0 []⟩]⟩ : CardT) = _ by rw [price_any]; rfl)
theorem single_110 (w : World) : Calls Tryd.prog 50 #[.int .i64 110] w (CardR (tblC 110) w) := by
  go_enter Tryd.func50, Tryd.ntmps50
  go_upto_region 1 with fail
  obtain ⟨w0, hw⟩ : ∃ W, W = w.alloc (.cells zeroD 27) := ⟨_, rfl⟩
  have hacc : EAcc w zeroD 27 w0 [] := by rw [hw]; exact ⟨(Below.refl _ _).alloc (Nat.le_refl _) _, heap_alloc_new _ _, by simp⟩
  rw [← hw]
  clear hw
  go_wp2_with (first
    | (go_at_call 42; refine (mk_effect _ _ _ _ _).mono ?_; rintro e w' ⟨rfl, hb'⟩; replace hacc := hacc.step hb'; clear hb')
    | (go_at_call 64; refine (mk_spell _ _ _ _ _ _ _ _ _).mono ?_; rintro e w' ⟨rfl, hb'⟩; replace hacc := hacc.step hb'; clear hb')
    | (go_at_call 41; refine (mk_at _ _ _ _ _ _ _ _ _).mono ?_; rintro e w' ⟨rfl, hb'⟩; replace hacc := hacc.step hb'; clear hb')
    | (go_at_call 46; refine (mk_price 5 _ _ _ (by decide) (by decide) (by decide) (by decide) (by decide)).mono ?_; rintro e w' ⟨rfl, hb'⟩; replace hacc := hacc.step hb'; clear hb')
    | (go_at_call 65; refine (mk_all _ _ _ _ _ ⟨by decide, by decide⟩ ⟨by decide, by decide⟩ ⟨by decide, by decide⟩ ⟨by decide, by decide⟩).mono ?_; rintro e w' ⟨A', c', rfl, hr', hb'⟩; replace hacc := hacc.snoc hb' hr'; clear hb' hr'))
  refine (mk_magic _ _ _ ⟨0, noC, false, 0, .node 20 0 0 0 [.node 6 0 0 2 []]⟩ _ (w.heap.size + 1) _ hacc.lt ⟨by decide, by decide⟩ (by rw [price_any]; exact wide_any ⟨by decide, by decide⟩) (ab_reads (a := ⟨0, noC, false, 0, .node 20 0 0 0 [.node 6 0 0 2 []]⟩) _ _ _ _ _ _ ⟨by decide, by decide⟩ wide_no ⟨by decide, by decide⟩ (hacc.get 0 rfl) rfl)).mono ?_
  rintro e w9 ⟨cs, rfl, hr, hb9⟩
  replace hacc := hacc.step hb9
  have hsx := cq_info hr
  have hcs := cq_size hr
  have h1 := cq_one hr
  go_wp2_with (refine wpList_store_row rfl 27 _ _ rfl w.heap.size cs rfl rfl 27 zeroD hacc.z hsx (by rw [hcs]; rfl) h1 ?_)
  exact card_end (p := 2) (by kernel_rfl) rfl rfl hacc hr (show (⟨2, 5, false, priceF 5 4 0, 0, 0, 0, [⟨0, noC, false, 0, .node 20 0 0 0 [.node 6 0 0 2 []]⟩]⟩ : CardT) = _ by rw [price_any]; rfl)
theorem single_107 (w : World) : Calls Tryd.prog 50 #[.int .i64 107] w (CardR (tblC 107) w) := by
  go_enter Tryd.func50, Tryd.ntmps50
  go_upto_region 1 with fail
  obtain ⟨w0, hw⟩ : ∃ W, W = w.alloc (.cells zeroD 27) := ⟨_, rfl⟩
  have hacc : EAcc w zeroD 27 w0 [] := by rw [hw]; exact ⟨(Below.refl _ _).alloc (Nat.le_refl _) _, heap_alloc_new _ _, by simp⟩
  rw [← hw]
  clear hw
  go_wp2_with (first
    | (go_at_call 42; refine (mk_effect _ _ _ _ _).mono ?_; rintro e w' ⟨rfl, hb'⟩; replace hacc := hacc.step hb'; clear hb')
    | (go_at_call 64; refine (mk_spell _ _ _ _ _ _ _ _ _).mono ?_; rintro e w' ⟨rfl, hb'⟩; replace hacc := hacc.step hb'; clear hb')
    | (go_at_call 41; refine (mk_at _ _ _ _ _ _ _ _ _).mono ?_; rintro e w' ⟨rfl, hb'⟩; replace hacc := hacc.step hb'; clear hb')
    | (go_at_call 46; refine (mk_price 5 _ _ _ (by decide) (by decide) (by decide) (by decide) (by decide)).mono ?_; rintro e w' ⟨rfl, hb'⟩; replace hacc := hacc.step hb'; clear hb')
    | (go_at_call 65; refine (mk_all _ _ _ _ _ ⟨by decide, by decide⟩ ⟨by decide, by decide⟩ ⟨by decide, by decide⟩ ⟨by decide, by decide⟩).mono ?_; rintro e w' ⟨A', c', rfl, hr', hb'⟩; replace hacc := hacc.snoc hb' hr'; clear hb' hr'))
  have hact := mk_active noC false 0 15 1 5 0 none 0 0 w'
  rw [arr6] at hact
  refine hact.mono ?_
  clear hact
  rintro e w8 ⟨rfl, hb8⟩
  replace hacc := hacc.step hb8
  go_wp2_with fail
  refine (mk_relic _ _ ⟨1, noC, false, 0, .node 15 1 5 0 []⟩ _ (w.heap.size + 1) _ hacc.lt ⟨by decide, by decide⟩ (by rw [price_any]; exact wide_any ⟨by decide, by decide⟩) (flatS _ _ _ _ _ _ _ _ ⟨by decide, by decide⟩ wide_no ⟨by decide, by decide⟩ ⟨by decide, by decide⟩ ⟨by decide, by decide⟩ ⟨by decide, by decide⟩ ⟨by decide, by decide⟩ rfl)).mono ?_
  rintro e w9 ⟨cs, rfl, hr, hb9⟩
  replace hacc := hacc.step hb9
  have hsx := cq_info hr
  have hcs := cq_size hr
  have h1 := cq_one hr
  go_wp2_with (refine wpList_store_row rfl 27 _ _ rfl w.heap.size cs rfl rfl 27 zeroD hacc.z hsx (by rw [hcs]; rfl) h1 ?_)
  exact card_end (p := 2) (by kernel_rfl) rfl rfl hacc hr (show (⟨3, 5, false, priceF 5 2 0, 0, 0, 0, [⟨1, noC, false, 0, .node 15 1 5 0 []⟩]⟩ : CardT) = _ by rw [price_any]; rfl)
theorem price_lit (n : Int) (w : World) (h0 : 0 ≤ n) (h1 : n ≤ 1000) : Calls Tryd.prog 46 #[.int .i64 5, .int .i64 n, .int .i64 0] w fun e w' => e = .returned (.agg #[.int .i64 0, .int .i64 0, .int .i64 0, .int .i64 0, .int .i64 0, .int .i64 n]) ∧ Below w.heap.size w w' := by
  have h := mk_price 5 n 0 w (by decide) h0 h1 (by decide) (by decide)
  rw [price_any, arr6] at h
  exact h
theorem single_108 (w : World) : Calls Tryd.prog 50 #[.int .i64 108] w (CardR (tblC 108) w) := by
  go_enter Tryd.func50, Tryd.ntmps50
  go_upto_region 1 with fail
  obtain ⟨w0, hw⟩ : ∃ W, W = w.alloc (.cells zeroD 27) := ⟨_, rfl⟩
  have hacc : EAcc w zeroD 27 w0 [] := by rw [hw]; exact ⟨(Below.refl _ _).alloc (Nat.le_refl _) _, heap_alloc_new _ _, by simp⟩
  rw [← hw]
  clear hw
  go_wp2_with fail
  refine (price_lit 2 _ (by decide) (by decide)).mono ?_
  rintro e w1 ⟨rfl, hb1⟩
  go_wp2_with fail
  refine (price_lit 1 _ (by decide) (by decide)).mono ?_
  rintro e w2 ⟨rfl, hb2⟩
  go_wp2_with fail
  refine (mk_effect _ _ _ _ _).mono ?_
  rintro e w3 ⟨rfl, hb3⟩
  go_wp2_with fail
  have hact := mk_active (updI noC 5 1) false 0 13 0 0 3 none 0 0 w3
  rw [arr6] at hact
  refine hact.mono ?_
  clear hact
  rintro e w4 ⟨rfl, hb4⟩
  rw [ab14]
  go_wp2_with fail
  refine (mk_manaTap _ _ _).mono ?_
  rintro e w5 ⟨rfl, hb5⟩
  rw [show abC (giveA 2 5) (evC 15 2 5 0 none 0 0) = #[.int .i64 6, .int .i64 0, .int .i64 0, .int .i64 0, .int .i64 0, .int .i64 0, .int .i64 0, .bool true, .int .i64 0, .int .i64 15, .int .i64 2, .int .i64 5, .int .i64 0, .slice none 0 0] from ab14 6 noC true 0 15 2 5 0 none 0 0]
  replace hacc := ((((hacc.step hb1).step hb2).step hb3).step hb4).step hb5
  have hal : ∀ cs : Array Value, EAcc w zeroD 27 (w5.alloc (.cells cs 48)) [] := fun cs => hacc.step ((Below.refl _ _).alloc (Nat.le_refl _) _)
  have hlt5 := hacc.lt
  go_wp2_with (refine wpList_store_row rfl 27 _ _ rfl w.heap.size _ rfl rfl 27 zeroD (hal _).z size13 rfl (by simp [Value.oneCell']) ?_)
  have hG := (AbAt.new w5 (abC ⟨1, updI noC 5 1, false, 0, .node 13 0 0 3 []⟩ (evC 13 0 0 3 none 0 0) ++ abC (giveA 2 5) (evC 15 2 5 0 none 0 0)))
  rw [ab14, show abC (giveA 2 5) (evC 15 2 5 0 none 0 0) = #[.int .i64 6, .int .i64 0, .int .i64 0, .int .i64 0, .int .i64 0, .int .i64 0, .int .i64 0, .bool true, .int .i64 0, .int .i64 15, .int .i64 2, .int .i64 5, .int .i64 0, .slice none 0 0] from ab14 6 noC true 0 15 2 5 0 none 0 0] at hG
  have hcd : cardC ⟨1, 5, false, updI noC 5 2, 1, 1, 0, [⟨1, updI noC 5 1, false, 0, .node 13 0 0 3 []⟩, giveA 2 5]⟩ (some ⟨w5.heap.size, 0, none⟩) 2 2 = #[.int .i64 1, .int .i64 5, .bool false, .int .i64 0, .int .i64 0, .int .i64 0, .int .i64 0, .int .i64 0, .int .i64 2, .int .i64 1, .int .i64 1, .int .i64 0, .slice (some ⟨w5.heap.size, 0, none⟩) 2 2] := by unfold cardC; rw [arr6]; rfl
  refine card_end (p := 2) (c' := ⟨1, 5, false, updI noC 5 2, 1, 1, 0, [⟨1, updI noC 5 1, false, 0, .node 13 0 0 3 []⟩, giveA 2 5]⟩) (by kernel_rfl) rfl rfl (hal _) ?_ rfl
  refine ⟨⟨by decide, by decide⟩, ⟨by decide, by decide⟩, wide_any ⟨by decide, by decide⟩, ⟨by decide, by decide⟩, ⟨by decide, by decide⟩, ⟨by decide, by decide⟩, some ⟨w5.heap.size, 0, none⟩, 2, hcd.symm, Nat.le_refl _, by unfold maxLen; simp, ?_⟩
  exact two_ab (ys := abC ⟨1, updI noC 5 1, false, 0, .node 13 0 0 3 []⟩ (evC 13 0 0 3 none 0 0)) (zs := abC (giveA 2 5) (evC 15 2 5 0 none 0 0)) (by rw [ab14, show abC (giveA 2 5) (evC 15 2 5 0 none 0 0) = _ from ab14 6 noC true 0 15 2 5 0 none 0 0]; exact hG)
    (flatS _ _ _ _ _ _ _ _ ⟨by decide, by decide⟩ (wide_any ⟨by decide, by decide⟩) ⟨by decide, by decide⟩ ⟨by decide, by decide⟩ ⟨by decide, by decide⟩ ⟨by decide, by decide⟩ ⟨by decide, by decide⟩ rfl)
    (flatS _ _ _ _ _ _ _ _ ⟨by decide, by decide⟩ wide_no ⟨by decide, by decide⟩ ⟨by decide, by decide⟩ ⟨by decide, by decide⟩ ⟨by decide, by decide⟩ ⟨by decide, by decide⟩ rfl) ⟨hlt5, by simp⟩
theorem single_111 (w : World) : Calls Tryd.prog 50 #[.int .i64 111] w (CardR (tblC 111) w) := by
  go_enter Tryd.func50, Tryd.ntmps50
  go_upto_region 1 with fail
  obtain ⟨w0, hw⟩ : ∃ W, W = w.alloc (.cells zeroD 27) := ⟨_, rfl⟩
  have hacc : EAcc w zeroD 27 w0 [] := by rw [hw]; exact ⟨(Below.refl _ _).alloc (Nat.le_refl _) _, heap_alloc_new _ _, by simp⟩
  rw [← hw]
  clear hw
  go_wp2_with fail
  refine (price_lit 3 _ (by decide) (by decide)).mono ?_
  rintro e w1 ⟨rfl, hb1⟩
  go_wp2_with fail
  refine (mk_effect _ _ _ _ _).mono ?_
  rintro e w2 ⟨rfl, hb2⟩
  go_wp2_with fail
  refine (mk_at _ _ _ _ _ _ _ _ _).mono ?_
  rintro e w5 ⟨rfl, hb5⟩
  replace hacc := ((hacc.step hb1).step hb2).step hb5
  have hal : ∀ cs : Array Value, EAcc w zeroD 27 (w5.alloc (.cells cs 48)) [] := fun cs => hacc.step ((Below.refl _ _).alloc (Nat.le_refl _) _)
  have hlt5 := hacc.lt
  go_wp2_with (first
    | (refine wpList_buildSlice_ab rfl (.tmp 76) rfl (abC ⟨3, noC, false, 0, .node 4 1 0 0 []⟩ (evC 4 1 0 0 none 0 0)) (abE_size _ _ _ _ _ _ _ _) rfl ?_)
    | (refine wpList_store_row rfl 27 _ _ rfl w.heap.size _ rfl rfl 27 zeroD (hal _).z size13 rfl (by simp [Value.oneCell']) ?_))
  have hcd : cardC ⟨1, 5, true, updI noC 5 3, 2, 3, 5, [⟨3, noC, false, 0, .node 4 1 0 0 []⟩]⟩ (some ⟨w5.heap.size, 0, none⟩) 1 1 = #[.int .i64 1, .int .i64 5, .bool true, .int .i64 0, .int .i64 0, .int .i64 0, .int .i64 0, .int .i64 0, .int .i64 3, .int .i64 2, .int .i64 3, .int .i64 5, .slice (some ⟨w5.heap.size, 0, none⟩) 1 1] := by unfold cardC; rw [arr6]; rfl
  refine card_end (p := 2) (c' := ⟨1, 5, true, updI noC 5 3, 2, 3, 5, [⟨3, noC, false, 0, .node 4 1 0 0 []⟩]⟩) (by kernel_rfl) rfl rfl (hal _) ?_ rfl
  refine ⟨⟨by decide, by decide⟩, ⟨by decide, by decide⟩, wide_any ⟨by decide, by decide⟩, ⟨by decide, by decide⟩, ⟨by decide, by decide⟩, ⟨by decide, by decide⟩, some ⟨w5.heap.size, 0, none⟩, 1, hcd.symm, Nat.le_refl _, by unfold maxLen; simp, ?_⟩
  exact one_ab (AbAt.new _ _) (flatS _ _ _ _ _ _ _ _ ⟨by decide, by decide⟩ wide_no ⟨by decide, by decide⟩ ⟨by decide, by decide⟩ ⟨by decide, by decide⟩ ⟨by decide, by decide⟩ ⟨by decide, by decide⟩ rfl) ⟨hlt5, by simp⟩
/-- Any of them. -/
theorem single_any (k : Nat) (w : World) (hk : k < 12) : Calls Tryd.prog 50 #[.int .i64 ((100 + k : Nat) : Int)] w (CardR (tblC (100 + k)) w) := by
  match k, hk with
  | 0, _ => exact single_100 w
  | 1, _ => exact single_101 w
  | 2, _ => exact single_102 w
  | 3, _ => exact single_103 w
  | 4, _ => exact single_104 w
  | 5, _ => exact single_105 w
  | 6, _ => exact single_106 w
  | 7, _ => exact single_107 w
  | 8, _ => exact single_108 w
  | 9, _ => exact single_109 w
  | 10, _ => exact single_110 w
  | 11, _ => exact single_111 w
end Go.Proofs.YtmdfgkfimlmmnaaDoor
namespace Go.Proofs.YtmdfgkfimlmmnaaDoor
open Go.RowKit Ex Mx
set_option maxRecDepth 100000
theorem pairs_half : ∀ k < 8, pairs8 k = ((k / 2 + 1 : Nat) : Int) := by decide
theorem tough_half : ∀ k < 8, tough8 k = (((k + 1) / 2 + 1 : Nat) : Int) := by decide
/-- What a call that makes a list of abilities answers. -/
def AbsQ (l : List AbT) (w : World) (e : Ending) (w' : World) : Prop := ∃ A c, e = .returned (.slice A l.length c) ∧ l.length ≤ c ∧ c ≤ maxLen ∧ RdAQ (fun b => w.heap.size ≤ b ∧ b < w'.heap.size) w' 2 A l ∧ Below w.heap.size w w'
theorem abs_one {w W : World} {ys : Array Value} {a : AbT} {l : List AbT} (hb : Below w.heap.size w W) (hr : ReadsAQ (fun b => w.heap.size ≤ b ∧ b < (W.alloc (.cells ys 48)).heap.size) (W.alloc (.cells ys 48)) 2 ys a) (hl : l = [a]) : AbsQ l w (.returned (.slice (some ⟨W.heap.size, 0, none⟩) 1 1)) (W.alloc (.cells ys 48)) := by
  subst hl
  exact ⟨_, 1, rfl, Nat.le_refl _, by unfold maxLen; simp, one_ab (AbAt.new _ _) hr ⟨hb.size, by simp⟩, hb.alloc hb.size _⟩
theorem abs_0 (k : Nat) (w : World) (hk : k < 8) : Calls Tryd.prog 63 #[.int .i64 0, .int .i64 (k : Int)] w (AbsQ (beastA 0 k) w) := by
  go_enter Tryd.func63, Tryd.ntmps63
  go_wp2_with fail
  refine (mk_effect _ _ _ _ _).mono ?_
  rintro e w1 ⟨rfl, hb1⟩
  go_wp2_with fail
  refine (mk_at _ _ _ _ _ _ _ _ _).mono ?_
  rintro e w2 ⟨rfl, hb2⟩
  have hb := keepB hb2 hb1
  clear hb1 hb2
  go_wp2_with (refine wpList_buildSlice_ab rfl _ rfl _ (abE_size _ _ _ _ _ _ _ _) rfl ?_)
  go_ret
  exact abs_one hb (flatS _ _ _ _ _ _ _ _ ⟨by decide, by decide⟩ (wide_no) ⟨by decide, by decide⟩ ⟨by decide, by decide⟩ ⟨by omega, by omega⟩ ⟨by decide, by decide⟩ ⟨by decide, by decide⟩ rfl) (rfl)
theorem abs_1 (k : Nat) (w : World) (hk : k < 8) : Calls Tryd.prog 63 #[.int .i64 1, .int .i64 (k : Int)] w (AbsQ (beastA 1 k) w) := by
  have r1 : (k : Int).tmod 2 = ((k % 2 : Nat) : Int) := by rw [Int.tmod_eq_emod_of_nonneg (by omega)]; omega
  by_cases hp : k % 2 = 0
  · have HE := Lib.hid (show beastA 1 k = [] by unfold beastA; rw [if_neg (by decide), if_pos rfl, if_pos hp])
    rw [hp] at r1
    go_enter Tryd.func63, Tryd.ntmps63
    go_wp2_with fail
    go_ret
    rw [HE.out]
    exact ⟨none, 0, rfl, Nat.le_refl _, by unfold maxLen; simp, no_ab, Below.refl _ _⟩
  · have HE := Lib.hid (show beastA 1 k = [⟨2, noC, false, 0, .node 4 1 0 0 []⟩] by unfold beastA; rw [if_neg (by decide), if_pos rfl, if_neg hp])
    rw [show k % 2 = 1 by omega] at r1
    go_enter Tryd.func63, Tryd.ntmps63
    go_wp2_with fail
    refine (mk_effect _ _ _ _ _).mono ?_
    rintro e w1 ⟨rfl, hb1⟩
    go_wp2_with fail
    refine (mk_at _ _ _ _ _ _ _ _ _).mono ?_
    rintro e w2 ⟨rfl, hb2⟩
    have hb := keepB hb2 hb1
    clear hb1 hb2
    go_wp2_with (refine wpList_buildSlice_ab rfl _ rfl _ (abE_size _ _ _ _ _ _ _ _) rfl ?_)
    go_ret
    exact abs_one hb (flatS _ _ _ _ _ _ _ _ ⟨by decide, by decide⟩ (wide_no) ⟨by decide, by decide⟩ ⟨by decide, by decide⟩ ⟨by omega, by omega⟩ ⟨by decide, by decide⟩ ⟨by decide, by decide⟩ rfl) (HE.out)
theorem abs_2 (k : Nat) (w : World) (hk : k < 8) : Calls Tryd.prog 63 #[.int .i64 2, .int .i64 (k : Int)] w (AbsQ (beastA 2 k) w) := by
  obtain ⟨p, hp⟩ : ∃ p, p = k / 2 := ⟨_, rfl⟩
  have r2 : (k : Int).tdiv 2 = (p : Int) := by rw [Int.tdiv_eq_ediv_of_nonneg (by omega)]; omega
  have hp8 : p < 8 := by omega
  have HE := Lib.hid (show beastA 2 k = [⟨3, noC, false, 0, .node 3 ((p : Int) + 1) 0 1 []⟩] by
    unfold beastA; rw [if_neg (by decide), if_neg (by decide), if_pos rfl, pairs_half k hk, ← hp]; rfl)
  clear hp
  go_enter Tryd.func63, Tryd.ntmps63
  go_wp2_with fail
  refine (mk_effect _ _ _ _ _).mono ?_
  rintro e w1 ⟨rfl, hb1⟩
  go_wp2_with fail
  refine (mk_at _ _ _ _ _ _ _ _ _).mono ?_
  rintro e w2 ⟨rfl, hb2⟩
  have hb := keepB hb2 hb1
  clear hb1 hb2
  go_wp2_with (refine wpList_buildSlice_ab rfl _ rfl _ (abE_size _ _ _ _ _ _ _ _) rfl ?_)
  go_ret
  exact abs_one hb (flatS _ _ _ _ _ _ _ _ ⟨by decide, by decide⟩ (wide_no) ⟨by decide, by decide⟩ ⟨by decide, by decide⟩ ⟨by omega, by omega⟩ ⟨by decide, by decide⟩ ⟨by decide, by decide⟩ rfl) (HE.out)
theorem abs_3 (k : Nat) (w : World) : Calls Tryd.prog 63 #[.int .i64 3, .int .i64 (k : Int)] w (AbsQ (beastA 3 k) w) := by
  have HE := Lib.hid (show beastA 3 k = [⟨1, priceF 3 1 0, true, 3, .node 1 1 0 2 []⟩] by rw [price_only (by decide)]; rfl)
  go_enter Tryd.func63, Tryd.ntmps63
  go_wp2_with fail
  refine (mk_price 3 1 0 _ (by decide) (by decide) (by decide) (by decide) (by decide)).mono ?_
  rintro e w1 ⟨rfl, hb1⟩
  go_wp2_with fail
  refine (mk_effect _ _ _ _ _).mono ?_
  rintro e w2 ⟨rfl, hb2⟩
  go_wp2_with fail
  refine (mk_active _ _ _ _ _ _ _ _ _ _ _).mono ?_
  rintro e w3 ⟨rfl, hb3⟩
  have hb := keepB hb3 (keepB hb2 hb1)
  clear hb1 hb2 hb3
  go_wp2_with (refine wpList_buildSlice_ab rfl _ rfl _ (abE_size _ _ _ _ _ _ _ _) rfl ?_)
  go_ret
  exact abs_one hb (flatS _ _ _ _ _ _ _ _ ⟨by decide, by decide⟩ (by rw [price_only (by decide)]; exact wide_one) ⟨by decide, by decide⟩ ⟨by decide, by decide⟩ ⟨by omega, by omega⟩ ⟨by decide, by decide⟩ ⟨by decide, by decide⟩ rfl) (HE.out)
theorem abs_4 (k : Nat) (w : World) : Calls Tryd.prog 63 #[.int .i64 4, .int .i64 (k : Int)] w (AbsQ (beastA 4 k) w) := by
  have HE := Lib.hid (show beastA 4 k = [⟨1, priceF 4 1 0, false, 0, .node 10 1 1 3 []⟩] by rw [price_only (by decide)]; rfl)
  go_enter Tryd.func63, Tryd.ntmps63
  go_wp2_with fail
  refine (mk_price 4 1 0 _ (by decide) (by decide) (by decide) (by decide) (by decide)).mono ?_
  rintro e w1 ⟨rfl, hb1⟩
  go_wp2_with fail
  refine (mk_effect _ _ _ _ _).mono ?_
  rintro e w2 ⟨rfl, hb2⟩
  go_wp2_with fail
  refine (mk_active _ _ _ _ _ _ _ _ _ _ _).mono ?_
  rintro e w3 ⟨rfl, hb3⟩
  have hb := keepB hb3 (keepB hb2 hb1)
  clear hb1 hb2 hb3
  go_wp2_with (refine wpList_buildSlice_ab rfl _ rfl _ (abE_size _ _ _ _ _ _ _ _) rfl ?_)
  go_ret
  exact abs_one hb (flatS _ _ _ _ _ _ _ _ ⟨by decide, by decide⟩ (by rw [price_only (by decide)]; exact wide_one) ⟨by decide, by decide⟩ ⟨by decide, by decide⟩ ⟨by omega, by omega⟩ ⟨by decide, by decide⟩ ⟨by decide, by decide⟩ rfl) (HE.out)
theorem abs_any (c k : Nat) (w : World) (hc : c < 5) (hk : k < 8) : Calls Tryd.prog 63 #[.int .i64 (c : Int), .int .i64 (k : Int)] w (AbsQ (beastA c k) w) := by
  match c, hc with
  | 0, _ => exact abs_0 k w hk
  | 1, _ => exact abs_1 k w hk
  | 2, _ => exact abs_2 k w hk
  | 3, _ => exact abs_3 k w
  | 4, _ => exact abs_4 k w
end Go.Proofs.YtmdfgkfimlmmnaaDoor
namespace Go.Proofs.YtmdfgkfimlmmnaaDoor
open Go.RowKit Ex Mx
set_option maxRecDepth 100000
namespace Ex
def beastC (c k : Nat) : CardT := ⟨1, (c : Int), false, updI (updI noC c (if 3 < k then 2 else 1)) 5 (k : Int), pairs8 k + (if c = 3 then 1 else 0), tough8 k + (if c = 4 then 1 else 0), says8 k, beastA c k⟩
end Ex
theorem says_pow : ∀ k < 8, IntKind.i64.wrap ((2 : Int) ^ k) = says8 k := by decide
theorem EAcc.setRow {w W : World} {z cs : Array Value} {t : TypeId} {P : Nat} (h : EAcc w z t W []) (hP : w.heap.size < P) : EAcc w z t (W.setRow P cs) [] :=
  ⟨below_setRow h.b _ _ (by omega), (setRow_other _ _ _ _ (by omega)).trans h.z, by simp⟩
theorem EAcc.setCell {w W : World} {z : Array Value} {t : TypeId} {P i : Nat} {v : Value} (h : EAcc w z t W []) (hP : w.heap.size < P) : EAcc w z t (W.setCell ⟨P, i, none⟩ v) [] :=
  ⟨h.b.setCell (by simp; omega) v, (heap_setCell_other W ⟨P, i, none⟩ _ v (by simp; omega)).trans h.z, by simp⟩
theorem build_card13 (q p t s f0 f1 f2 f3 f4 f5 : Int) (A : Option Addr) (n c : Nat) (W : World) : (Instr.build 27 #[(0, .int .i64 1), (1, .int .i64 q), (3, .agg #[.int .i64 f0, .int .i64 f1, .int .i64 f2, .int .i64 f3, .int .i64 f4, .int .i64 f5]), (4, .int .i64 p), (5, .int .i64 t), (6, .int .i64 s), (7, .slice A n c)]).run Tryd.prog W =
    .ok (.agg #[.int .i64 1, .int .i64 q, .bool false, .int .i64 f0, .int .i64 f1, .int .i64 f2, .int .i64 f3, .int .i64 f4, .int .i64 f5, .int .i64 p, .int .i64 t, .int .i64 s, .slice A n c]) W := by kernel_rfl
theorem build_card (q p t s : Int) (f : Nat → Int) (A : Option Addr) (n c : Nat) (W : World) : (Instr.build 27 #[(0, .int .i64 1), (1, .int .i64 q), (3, .agg (arr .i64 6 f)), (4, .int .i64 p), (5, .int .i64 t), (6, .int .i64 s), (7, .slice A n c)]).run Tryd.prog W =
    .ok (.agg (cardC ⟨1, q, false, f, p, t, s, []⟩ A n c)) W := by
  have h := build_card13 q p t s (f 0) (f 1) (f 2) (f 3) (f 4) (f 5) A n c W
  unfold cardC
  rw [arr6]
  exact h
theorem yields_card {ops : Array Oper} {S : World → Prop} {op : Oper} {a : Act} (hw : Region.wanted op (yielded ops a.tmps) = true) {y1 y3 y4 y5 y6 y7 : Operand}
    (ho : op.op = .build 27 #[(0, .const (.int .i64 1)), (1, y1), (3, y3), (4, y4), (5, y5), (6, y6), (7, y7)]) (q p t s : Int) (f : Nat → Int) (A : Option Addr) (n c : Nat)
    (e1 : a.eval y1 = .int .i64 q) (e3 : a.eval y3 = .agg (arr .i64 6 f)) (e4 : a.eval y4 = .int .i64 p) (e5 : a.eval y5 = .int .i64 t) (e6 : a.eval y6 = .int .i64 s) (e7 : a.eval y7 = .slice A n c) : YieldsIf Tryd.prog ops S op (.agg (cardC ⟨1, q, false, f, p, t, s, []⟩ A n c)) a :=
  .inl ⟨hw, fun w _ => by
    unfold execOp
    simp only [ho, List.map_toArray, List.map_cons, List.map_nil, show ∀ v, a.eval (Operand.const v) = v from fun _ => rfl, e1, e3, e4, e5, e6, e7, Sem.run_bind, Sem.run_pure]
    rw [build_card]
    rfl⟩
theorem RdAQ.more {Q Q' : Nat → Prop} {w w' : World} {d : Nat} {A : Option Addr} {l : List AbT} (h : RdAQ Q w d A l) (hb : Below w.heap.size w w') (hq : ∀ b, Q b → b < w.heap.size ∧ Q' b) : RdAQ Q' w' d A l := h.keep (fun b hb' => hb.block b (hq b hb').1) (fun b hb' => (hq b hb').2)
theorem beast_card {c k : Nat} (hc : c < 5) (hk : k < 8) {Q : Nat → Prop} {W : World} {A : Option Addr} {cc : Nat} (hl : (beastA c k).length ≤ cc) (hcm : cc ≤ maxLen) (hx : RdAQ Q W 2 A (beastA c k)) {f : Nat → Int} {p t s : Int}
    (hf : f = (beastC c k).cost) (hp : p = (beastC c k).power) (ht : t = (beastC c k).tough) (hs : s = (beastC c k).says) : ReadsCQ Q W 2 (cardC ⟨1, (c : Int), false, f, p, t, s, []⟩ A (beastA c k).length cc) (beastC c k) := by
  subst hf hp ht hs
  have h1 := pairs_half k hk
  have h2 := tough_half k hk
  refine ⟨in_1, ⟨by show _ ≤ (c : Int); omega, by show (c : Int) ≤ _; omega⟩, fun i _ => ?_, ?_, ?_, says8_in k, A, cc, rfl, hl, hcm, hx⟩
  · show -9223372036854775808 ≤ updI (updI noC c (if 3 < k then 2 else 1)) 5 (k : Int) i ∧ updI (updI noC c (if 3 < k then 2 else 1)) 5 (k : Int) i ≤ 9223372036854775807
    simp only [updI, noC]
    split
    · omega
    · split
      · split <;> decide
      · decide
  · show -9223372036854775808 ≤ pairs8 k + (if c = 3 then 1 else 0) ∧ pairs8 k + (if c = 3 then 1 else 0) ≤ 9223372036854775807
    rw [h1]; split <;> omega
  · show -9223372036854775808 ≤ tough8 k + (if c = 4 then 1 else 0) ∧ tough8 k + (if c = 4 then 1 else 0) ≤ 9223372036854775807
    rw [h2]; split <;> omega
theorem beast_cost {c k q4 : Nat} (hc : c < 5) (hk : k < 8) (hq : q4 = k / 4) : priceF c (1 + (q4 : Int)) (k : Int) = (beastC c k).cost := by
  rw [price_lo hc]
  show _ = updI (updI noC c (if 3 < k then 2 else 1)) 5 (k : Int)
  congr 2
  split <;> omega
set_option linter.unusedSimpArgs false in
set_option maxHeartbeats 1000000 in
theorem beast_any (c k : Nat) (w : World) (hc : c < 5) (hk : k < 8) : Calls Tryd.prog 43 #[.int .i64 (c : Int), .int .i64 (k : Int)] w (CardR (beastC c k) w) := by
  obtain ⟨q4, hq4⟩ : ∃ p, p = k / 4 := ⟨_, rfl⟩
  obtain ⟨q2, hq2⟩ : ∃ p, p = k / 2 := ⟨_, rfl⟩
  obtain ⟨h2, hh2⟩ : ∃ p, p = (k + 1) / 2 := ⟨_, rfl⟩
  have r4 : (k : Int).tdiv 4 = (q4 : Int) := by rw [Int.tdiv_eq_ediv_of_nonneg (by omega)]; omega
  have r2 : (k : Int).tdiv 2 = (q2 : Int) := by rw [Int.tdiv_eq_ediv_of_nonneg (by omega)]; omega
  have r1 : ((k : Int) + 1).tdiv 2 = (h2 : Int) := by rw [Int.tdiv_eq_ediv_of_nonneg (by omega)]; omega
  have b4 : q4 < 2 := by omega
  have b2 : q2 < 8 := by omega
  have b1 : h2 < 8 := by omega
  have HQ := Lib.hid (And.intro hq4 (And.intro hq2 hh2))
  obtain ⟨pw, hpw⟩ : ∃ x : Int, x = (q2 : Int) + 1 := ⟨_, rfl⟩
  obtain ⟨tg, htg⟩ : ∃ x : Int, x = (h2 : Int) + 1 := ⟨_, rfl⟩
  obtain ⟨sy, hsy⟩ : ∃ x : Int, x = says8 k := ⟨_, rfl⟩
  have e1 : IntKind.i64.wrap (q4 : Int) = (q4 : Int) := i64_in (by omega) (by omega)
  have e2 : IntKind.i64.wrap (1 + (q4 : Int)) = 1 + (q4 : Int) := i64_in (by omega) (by omega)
  have e3 : IntKind.i64.wrap (q2 : Int) = (q2 : Int) := i64_in (by omega) (by omega)
  have e4 : IntKind.i64.wrap ((q2 : Int) + 1) = pw := by rw [hpw]; exact i64_in (by omega) (by omega)
  have e5 : IntKind.i64.wrap ((k : Int) + 1) = (k : Int) + 1 := i64_in (by omega) (by omega)
  have e6 : IntKind.i64.wrap (h2 : Int) = (h2 : Int) := i64_in (by omega) (by omega)
  have e7 : IntKind.i64.wrap ((h2 : Int) + 1) = tg := by rw [htg]; exact i64_in (by omega) (by omega)
  have e8 : IntKind.i64.wrap ((2 : Int) ^ k) = sy := by rw [hsy]; exact says_pow k hk
  have bp : 0 ≤ pw ∧ pw < 10 := by omega
  have bt : 0 ≤ tg ∧ tg < 10 := by omega
  obtain ⟨bp0, bp1⟩ := bp
  obtain ⟨bt0, bt1⟩ := bt
  have HV := Lib.hid (And.intro hpw (And.intro htg hsy))
  clear hq4 hq2 hh2 hpw htg hsy
  go_enter Tryd.func43, Tryd.ntmps43
  go_upto_region 1 with fail
  obtain ⟨w0, hw⟩ : ∃ W, W = w.alloc (.cells zeroD 27) := ⟨_, rfl⟩
  have hacc : EAcc w zeroD 27 w0 [] := by rw [hw]; exact ⟨(Below.refl _ _).alloc (Nat.le_refl _) _, heap_alloc_new _ _, by simp⟩
  rw [← hw]
  clear hw
  refine wp_region_held_drew (S := fun W => EAcc w zeroD 27 W []) (by kernel_rfl) (hacc.step (Below.refl _ _).drew) (fun hHeld => ?_)
  refine wpAnyH_take (i := 0) (v := ?_) rfl (by kernel_rfl) (by kernel_rfl) (by kernel_rfl) (fun _ _ _ h => h) (Or.inl ⟨by rfl, ?_⟩) hHeld ?_
  rotate_left
  · (intro w hSw; go_simp; (try with_reducible rfl))
  simp only [Act.put, List.getElem_toArray, List.getElem_cons_zero, List.getElem_cons_succ, List.setIfInBounds_toArray, List.set_cons_zero, List.set_cons_succ]
  refine wpAnyH_take (i := 1) (v := ?_) rfl (by kernel_rfl) (by kernel_rfl) (by kernel_rfl) (fun _ _ _ h => h) (Or.inl ⟨by rfl, ?_⟩) hHeld ?_
  rotate_left
  · (intro w hSw; go_simp; (try with_reducible rfl))
  simp only [Act.put, List.getElem_toArray, List.getElem_cons_zero, List.getElem_cons_succ, List.setIfInBounds_toArray, List.set_cons_zero, List.set_cons_succ]
  refine wpAnyH_take (i := 2) (v := ?_) rfl (by kernel_rfl) (by kernel_rfl) (by kernel_rfl) (fun _ _ _ h => h) (Or.inl ⟨by rfl, ?_⟩) hHeld ?_
  rotate_left
  · (intro w hSw; go_simp; (try with_reducible rfl))
  simp only [Act.put, List.getElem_toArray, List.getElem_cons_zero, List.getElem_cons_succ, List.setIfInBounds_toArray, List.set_cons_zero, List.set_cons_succ]
  refine wpAnyH_take (i := 3) (v := ?_) rfl (by kernel_rfl) (by kernel_rfl) (by kernel_rfl) (fun _ _ _ h => h) (Or.inl ⟨by rfl, ?_⟩) hHeld ?_
  rotate_left
  · (intro w hSw; go_simp; (try with_reducible rfl))
  simp only [Act.put, List.getElem_toArray, List.getElem_cons_zero, List.getElem_cons_succ, List.setIfInBounds_toArray, List.set_cons_zero, List.set_cons_succ]
  refine wpAnyH_take (i := 4) (v := ?_) rfl (by kernel_rfl) (by kernel_rfl) (by kernel_rfl) (fun _ _ _ h => h) (Or.inl ⟨by rfl, ?_⟩) hHeld ?_
  rotate_left
  · (intro w hSw; go_simp; (try with_reducible rfl))
  simp only [Act.put, List.getElem_toArray, List.getElem_cons_zero, List.getElem_cons_succ, List.setIfInBounds_toArray, List.set_cons_zero, List.set_cons_succ]
  refine wpAnyH_take (i := 5) (v := ?_) rfl (by kernel_rfl) (by kernel_rfl) (by kernel_rfl) (fun _ _ _ h => h) (Or.inl ⟨by rfl, ?_⟩) hHeld ?_
  rotate_left
  · (intro w hSw; go_simp; (try with_reducible rfl))
  simp only [Act.put, List.getElem_toArray, List.getElem_cons_zero, List.getElem_cons_succ, List.setIfInBounds_toArray, List.set_cons_zero, List.set_cons_succ]
  refine wpAnyH_take (i := 7) (v := ?_) rfl (by kernel_rfl) (by kernel_rfl) (by kernel_rfl) (fun _ _ _ h => h) (Or.inl ⟨by rfl, ?_⟩) hHeld ?_
  rotate_left
  · (intro w hSw; go_simp; (try with_reducible rfl))
  simp only [Act.put, List.getElem_toArray, List.getElem_cons_zero, List.getElem_cons_succ, List.setIfInBounds_toArray, List.set_cons_zero, List.set_cons_succ]
  refine wpAnyH_take (i := 8) (v := ?_) rfl (by kernel_rfl) (by kernel_rfl) (by kernel_rfl) (fun _ _ _ h => h) (Or.inl ⟨by rfl, ?_⟩) hHeld ?_
  rotate_left
  · (intro w hSw; go_simp; (try with_reducible rfl))
  simp only [Act.put, List.getElem_toArray, List.getElem_cons_zero, List.getElem_cons_succ, List.setIfInBounds_toArray, List.set_cons_zero, List.set_cons_succ]
  refine wpAnyH_take (i := 9) (v := ?_) rfl (by kernel_rfl) (by kernel_rfl) (by kernel_rfl) (fun _ _ _ h => h) (Or.inl ⟨by rfl, ?_⟩) hHeld ?_
  rotate_left
  · (intro w hSw; go_simp; (try with_reducible rfl))
  simp only [Act.put, List.getElem_toArray, List.getElem_cons_zero, List.getElem_cons_succ, List.setIfInBounds_toArray, List.set_cons_zero, List.set_cons_succ]
  refine wpAnyH_take (i := 10) (v := ?_) rfl (by kernel_rfl) (by kernel_rfl) (by kernel_rfl) (fun _ _ _ h => h) (Or.inl ⟨by rfl, ?_⟩) hHeld ?_
  rotate_left
  · (intro w hSw; go_simp; (try with_reducible rfl))
  simp only [Act.put, List.getElem_toArray, List.getElem_cons_zero, List.getElem_cons_succ, List.setIfInBounds_toArray, List.set_cons_zero, List.set_cons_succ]
  refine wpAnyH_take (i := 11) (v := ?_) rfl (by kernel_rfl) (by kernel_rfl) (by kernel_rfl) (fun _ _ _ h => h) (Or.inl ⟨by rfl, ?_⟩) hHeld ?_
  rotate_left
  · (intro w hSw; go_simp; (try with_reducible rfl))
  simp only [Act.put, List.getElem_toArray, List.getElem_cons_zero, List.getElem_cons_succ, List.setIfInBounds_toArray, List.set_cons_zero, List.set_cons_succ]
  refine wpAnyH_take (i := 12) (v := ?_) rfl (by kernel_rfl) (by kernel_rfl) (by kernel_rfl) (fun _ _ _ h => h) (Or.inl ⟨by rfl, ?_⟩) hHeld ?_
  rotate_left
  · (intro w hSw; go_simp; (try with_reducible rfl))
  simp only [Act.put, List.getElem_toArray, List.getElem_cons_zero, List.getElem_cons_succ, List.setIfInBounds_toArray, List.set_cons_zero, List.set_cons_succ]
  refine wpAnyH_take (i := 13) (v := ?_) rfl (by kernel_rfl) (by kernel_rfl) (by kernel_rfl) (fun _ _ _ h => h) (Or.inl ⟨by rfl, ?_⟩) hHeld ?_
  rotate_left
  · (intro w hSw; go_simp; (try with_reducible rfl))
  simp only [Act.put, List.getElem_toArray, List.getElem_cons_zero, List.getElem_cons_succ, List.setIfInBounds_toArray, List.set_cons_zero, List.set_cons_succ]
  refine wpAnyH_take (i := 14) (v := ?_) rfl (by kernel_rfl) (by kernel_rfl) (by kernel_rfl) (fun _ _ _ h => h) (Or.inl ⟨by rfl, ?_⟩) hHeld ?_
  rotate_left
  · (intro w hSw; go_simp; (try with_reducible rfl))
  simp only [Act.put, List.getElem_toArray, List.getElem_cons_zero, List.getElem_cons_succ, List.setIfInBounds_toArray, List.set_cons_zero, List.set_cons_succ]
  refine wpAnyH_take (i := 15) (v := ?_) rfl (by kernel_rfl) (by kernel_rfl) (by kernel_rfl) (fun _ _ _ h => h) (Or.inl ⟨by rfl, ?_⟩) hHeld ?_
  rotate_left
  · (intro w hSw; go_simp; (try with_reducible rfl))
  simp only [Act.put, List.getElem_toArray, List.getElem_cons_zero, List.getElem_cons_succ, List.setIfInBounds_toArray, List.set_cons_zero, List.set_cons_succ]
  refine wpAnyH_take (i := 16) (v := ?_) rfl (by kernel_rfl) (by kernel_rfl) (by kernel_rfl) (fun _ _ _ h => h) (Or.inl ⟨by rfl, ?_⟩) hHeld ?_
  rotate_left
  · (intro w hSw; go_simp; (try with_reducible rfl))
  simp only [Act.put, List.getElem_toArray, List.getElem_cons_zero, List.getElem_cons_succ, List.setIfInBounds_toArray, List.set_cons_zero, List.set_cons_succ]
  refine wpAnyH_take (i := 17) (v := ?_) rfl (by kernel_rfl) (by kernel_rfl) (by kernel_rfl) (fun _ _ _ h => h) (Or.inl ⟨by rfl, ?_⟩) hHeld ?_
  rotate_left
  · (intro w hSw; go_simp; (try with_reducible rfl))
  simp only [Act.put, List.getElem_toArray, List.getElem_cons_zero, List.getElem_cons_succ, List.setIfInBounds_toArray, List.set_cons_zero, List.set_cons_succ]
  clear r4 r2 r1 e1 e2 e3 e4 e5 e6 e7 e8
  generalize w0.drew = V0 at hHeld ⊢
  refine wpAnyH_ready (rs := [6, 20]) (by kernel_rfl) (by simp) ?_
  refine AllReadyH.cons rfl (fun K hK => ?_) (AllReadyH.cons rfl (fun K hK => ?_) AllReadyH.nil)
  all_goals simp only [List.getElem_toArray, List.getElem_cons_zero, List.getElem_cons_succ]
  · skip
    go_simp
    refine (mk_price c (1 + (q4 : Int)) (k : Int) _ (by omega) (by omega) (by omega) (by omega) (by omega)).mono ?_
    rintro e V1 ⟨rfl, hb'⟩
    go_wp2_with fail
    replace hHeld := hHeld.step hb'
    refine hK.out _ _ hHeld (fun _ => ?_)
    clear hK K
    try simp only [Act.put, List.setIfInBounds_toArray, List.set_cons_zero, List.set_cons_succ]
    refine wpAnyH_ready (rs := [18, 20]) (by kernel_rfl) (by simp) ?_
    refine AllReadyH.cons rfl (fun K hK => ?_) (AllReadyH.cons rfl (fun K hK => ?_) AllReadyH.nil)
    all_goals simp only [List.getElem_toArray, List.getElem_cons_zero, List.getElem_cons_succ]
    · skip
      go_simp
      refine (abs_any c k _ hc hk).mono ?_
      rintro e V2 ⟨A, cc, rfl, hl, hcm, hrd, hb'⟩
      go_wp2_with fail
      have hlo := hHeld.lt
      replace hHeld := hHeld.step hb'
      refine hK.out _ _ hHeld (fun _ => ?_)
      clear hK K
      try simp only [Act.put, List.setIfInBounds_toArray, List.set_cons_zero, List.set_cons_succ]
      refine wpAnyH_take (i := 19) (v := .agg (cardC ⟨1, (c : Int), false, priceF c (1 + (q4 : Int)) (k : Int), pw, tg, sy, []⟩ A (beastA c k).length cc)) rfl (by kernel_rfl) (by kernel_rfl) (by kernel_rfl) (fun _ _ _ h => h) (yields_card rfl rfl _ _ _ _ _ _ _ _ rfl rfl rfl rfl rfl rfl) hHeld ?_
      simp only [Act.put, List.getElem_toArray, List.getElem_cons_zero, List.getElem_cons_succ, List.setIfInBounds_toArray, List.set_cons_zero, List.set_cons_succ]
      refine wpAnyH_ready (rs := [20]) (by kernel_rfl) (by simp) ?_
      refine AllReadyH.cons rfl (fun K hK => ?_) AllReadyH.nil
      simp only [List.getElem_toArray, List.getElem_cons_zero, List.getElem_cons_succ]
      replace hrd := hrd.more (w' := V2) (Q' := fun b => w.heap.size + 1 ≤ b ∧ b < V2.heap.size) (Below.refl _ _) (fun b hb => ⟨hb.2, by omega, hb.2⟩)
      go_simp
      obtain ⟨V3, hW⟩ : ∃ W, W = V2.alloc (.cells zeroD 27) := ⟨_, rfl⟩
      have hx : CdAt V3 V2.heap.size zeroD := by rw [hW]; exact CdAt.new _ _
      have hb' : Below V2.heap.size V2 V3 := by rw [hW]; exact (Below.refl _ _).alloc (Nat.le_refl _) _
      have hPl := hHeld.lt
      have hlx := hx.lt
      rw [← hW]
      clear hW
      replace hHeld := hHeld.step hb'
      refine hK.out _ _ hHeld (fun _ => ?_)
      clear hK K
      try simp only [Act.put, List.setIfInBounds_toArray, List.set_cons_zero, List.set_cons_succ]
      replace hrd := hrd.more (w' := V3) (Q' := fun b => w.heap.size + 1 ≤ b ∧ b < V3.heap.size ∧ b ≠ V2.heap.size) hb' (fun b hb => ⟨hb.2, by omega⟩)
      have hs13 : (cardC ⟨1, (c : Int), false, priceF c (1 + (q4 : Int)) (k : Int), pw, tg, sy, []⟩ A (beastA c k).length cc).size = 13 := by simp [cardC, arr_size]
      refine wpAnyH_ready (rs := [21]) (by kernel_rfl) (by simp) ?_
      refine AllReadyH.cons rfl (fun K hK => ?_) AllReadyH.nil
      simp only [List.getElem_toArray, List.getElem_cons_zero, List.getElem_cons_succ]
      refine wp_store_row 27 (.tmp 5) (.tmp 25) rfl V2.heap.size (cardC ⟨1, (c : Int), false, priceF c (1 + (q4 : Int)) (k : Int), pw, tg, sy, []⟩ A (beastA c k).length cc) rfl rfl 27 zeroD hx (by rw [hs13]; exact size13) (by rw [hs13]; rfl) (card_one _ _ _ _) ?_
      refine hK.out _ _ (hHeld.setRow hPl) (fun _ => ?_)
      clear hK K
      try simp only [Act.put, List.setIfInBounds_toArray, List.set_cons_zero, List.set_cons_succ]
      refine wpAnyH_done (by kernel_rfl) ?_ _
      obtain ⟨W5, hW⟩ : ∃ W, W = V3.setRow V2.heap.size (cardC ⟨1, (c : Int), false, priceF c (1 + (q4 : Int)) (k : Int), pw, tg, sy, []⟩ A (beastA c k).length cc) := ⟨_, rfl⟩
      have hC5 : CdAt W5 V2.heap.size (cardC ⟨1, (c : Int), false, priceF c (1 + (q4 : Int)) (k : Int), pw, tg, sy, []⟩ A (beastA c k).length cc) := by rw [hW]; exact setRow_heap _ _ _ _ _ _ hx
      have HR5 := Lib.hid (show RdAQ (fun b => w.heap.size + 1 ≤ b ∧ b < W5.heap.size ∧ b ≠ V2.heap.size) W5 2 A (beastA c k) from hrd.keep (fun b hb => by rw [hW]; exact setRow_other _ _ _ _ hb.2.2) (fun b hb => by rw [hW, setRow_size]; exact hb))
      have hA5 : EAcc w zeroD 27 W5 [] := by rw [hW]; exact hHeld.setRow hPl
      rw [← hW]
      clear hW hHeld hx hrd hacc hs13
      obtain ⟨P, hP⟩ : ∃ P, P = V2.heap.size := ⟨_, rfl⟩
      rw [← hP] at hC5 HR5 hPl ⊢
      clear hP
      have HL := Lib.hid (And.intro hl hcm)
      have HL5 := Lib.hid hA5
      clear hl hcm
      go_upto_region 3 with fail
      by_cases h3 : c = 3
      · subst h3
        have k9 : W5.cell? ⟨P, 9, none⟩ = some (.int .i64 pw) := by rw [hC5.cell]; exact cd_power
        have f9 := frozen_of_row W5 P 9 _ _ hC5
        rw [show ((3 : Nat) : Int) = 3 from rfl]
        go_upto_region 7 with fail
        obtain ⟨W6, hW⟩ : ∃ W, W = W5.setCell ⟨P, 9, none⟩ (.int .i64 (pw + 1)) := ⟨_, rfl⟩
        have hC6 : CdAt W6 P (cardC ⟨1, ((3 : Nat) : Int), false, priceF 3 (1 + (q4 : Int)) (k : Int), pw + 1, tg, sy, []⟩ A (beastA 3 k).length cc) := by
          rw [hW]; have := heap_setCell_same W5 P 9 _ _ (.int .i64 (pw + 1)) hC5; rw [set_power] at this; exact this
        have hA6 : EAcc w zeroD 27 W6 [] := by rw [hW]; exact HL5.out.setCell hPl
        have HR6 := Lib.hid (show RdAQ (fun b => w.heap.size + 1 ≤ b ∧ b < W6.heap.size ∧ b ≠ P) W6 2 A (beastA 3 k) from HR5.out.keep (fun b hb => by rw [hW]; exact heap_setCell_other W5 ⟨P, 9, none⟩ b _ (by simpa using hb.2.2)) (fun b hb => by rw [hW]; simpa using hb))
        rw [← hW]
        clear hW k9 f9
        have hbc := beast_card hc hk HL.out.1 HL.out.2 HR6.out (beast_cost hc hk HQ.out.1) (show (pw + 1) = (beastC _ k).power from by rw [HV.out.1, HQ.out.2.1]; show _ = pairs8 k + 1; rw [pairs_half k hk]; omega) (show tg = (beastC _ k).tough from by rw [HV.out.2.1, HQ.out.2.2]; show _ = tough8 k + 0; rw [tough_half k hk]; omega) (show sy = (beastC _ k).says from HV.out.2.2)
        have HB := Lib.hid hbc
        have hsx := cq_info hbc
        have hcs := cq_size hbc
        have h1 := cq_one hbc
        clear hbc
        go_wp2_with (first
          | (refine wpList_load_row rfl 27 (.tmp 5) rfl P rfl 27 _ (0, 0) _ hC6 Tryd.underlying27 rfl hsx ?_)
          | (refine wpList_store_row rfl 27 _ _ rfl w.heap.size _ rfl rfl 27 zeroD (hA6).z hsx (by rw [hcs]; rfl) h1 ?_))
        exact card_end (p := 4) (by kernel_rfl) rfl rfl hA6 (HB.out.keep (fun _ _ => rfl) (fun _ hb => ⟨hb.1, hb.2.1⟩)) rfl
      · have d3 : ((c : Int) == 3) = false := by simp; omega
        by_cases h4 : c = 4
        · subst h4
          have k9 : W5.cell? ⟨P, 10, none⟩ = some (.int .i64 tg) := by rw [hC5.cell]; exact cd_tough
          have f9 := frozen_of_row W5 P 10 _ _ hC5
          rw [show ((4 : Nat) : Int) = 4 from rfl]
          go_upto_region 7 with fail
          obtain ⟨W6, hW⟩ : ∃ W, W = W5.setCell ⟨P, 10, none⟩ (.int .i64 (tg + 1)) := ⟨_, rfl⟩
          have hC6 : CdAt W6 P (cardC ⟨1, ((4 : Nat) : Int), false, priceF 4 (1 + (q4 : Int)) (k : Int), pw, tg + 1, sy, []⟩ A (beastA 4 k).length cc) := by
            rw [hW]; have := heap_setCell_same W5 P 10 _ _ (.int .i64 (tg + 1)) hC5; rw [set_tough] at this; exact this
          have hA6 : EAcc w zeroD 27 W6 [] := by rw [hW]; exact HL5.out.setCell hPl
          have HR6 := Lib.hid (show RdAQ (fun b => w.heap.size + 1 ≤ b ∧ b < W6.heap.size ∧ b ≠ P) W6 2 A (beastA 4 k) from HR5.out.keep (fun b hb => by rw [hW]; exact heap_setCell_other W5 ⟨P, 10, none⟩ b _ (by simpa using hb.2.2)) (fun b hb => by rw [hW]; simpa using hb))
          rw [← hW]
          clear hW k9 f9
          have hbc := beast_card hc hk HL.out.1 HL.out.2 HR6.out (beast_cost hc hk HQ.out.1) (show pw = (beastC _ k).power from by rw [HV.out.1, HQ.out.2.1]; show _ = pairs8 k + 0; rw [pairs_half k hk]; omega) (show (tg + 1) = (beastC _ k).tough from by rw [HV.out.2.1, HQ.out.2.2]; show _ = tough8 k + 1; rw [tough_half k hk]; omega) (show sy = (beastC _ k).says from HV.out.2.2)
          have HB := Lib.hid hbc
          have hsx := cq_info hbc
          have hcs := cq_size hbc
          have h1 := cq_one hbc
          clear hbc
          go_wp2_with (first
            | (refine wpList_load_row rfl 27 (.tmp 5) rfl P rfl 27 _ (0, 0) _ hC6 Tryd.underlying27 rfl hsx ?_)
            | (refine wpList_store_row rfl 27 _ _ rfl w.heap.size _ rfl rfl 27 zeroD (hA6).z hsx (by rw [hcs]; rfl) h1 ?_))
          exact card_end (p := 4) (by kernel_rfl) rfl rfl hA6 (HB.out.keep (fun _ _ => rfl) (fun _ hb => ⟨hb.1, hb.2.1⟩)) rfl
        · have d4 : ((c : Int) == 4) = false := by simp; omega
          go_upto_region 7 with fail
          have HN := Lib.hid (And.intro h3 h4)
          clear h3 h4
          have hbc := beast_card hc hk HL.out.1 HL.out.2 HR5.out (beast_cost hc hk HQ.out.1) (show pw = (beastC _ k).power from by rw [HV.out.1, HQ.out.2.1]; show _ = pairs8 k + (if c = 3 then 1 else 0); rw [if_neg HN.out.1, pairs_half k hk]; omega) (show tg = (beastC _ k).tough from by rw [HV.out.2.1, HQ.out.2.2]; show _ = tough8 k + (if c = 4 then 1 else 0); rw [if_neg HN.out.2, tough_half k hk]; omega) (show sy = (beastC _ k).says from HV.out.2.2)
          have HB := Lib.hid hbc
          have hsx := cq_info hbc
          have hcs := cq_size hbc
          have h1 := cq_one hbc
          clear hbc
          go_wp2_with (first
            | (refine wpList_load_row rfl 27 (.tmp 5) rfl P rfl 27 _ (0, 0) _ hC5 Tryd.underlying27 rfl hsx ?_)
            | (refine wpList_store_row rfl 27 _ _ rfl w.heap.size _ rfl rfl 27 zeroD (hA5).z hsx (by rw [hcs]; rfl) h1 ?_))
          exact card_end (p := 4) (by kernel_rfl) rfl rfl hA5 (HB.out.keep (fun _ _ => rfl) (fun _ hb => ⟨hb.1, hb.2.1⟩)) rfl
    · skip
      go_simp
      obtain ⟨V2, hW⟩ : ∃ W, W = V1.alloc (.cells zeroD 27) := ⟨_, rfl⟩
      have hx : CdAt V2 V1.heap.size zeroD := by rw [hW]; exact CdAt.new _ _
      have hb' : Below V1.heap.size V1 V2 := by rw [hW]; exact (Below.refl _ _).alloc (Nat.le_refl _) _
      have hPl := hHeld.lt
      have hlx := hx.lt
      rw [← hW]
      clear hW
      replace hHeld := hHeld.step hb'
      refine hK.out _ _ hHeld (fun _ => ?_)
      clear hK K
      try simp only [Act.put, List.setIfInBounds_toArray, List.set_cons_zero, List.set_cons_succ]
      refine wpAnyH_ready (rs := [18]) (by kernel_rfl) (by simp) ?_
      refine AllReadyH.cons rfl (fun K hK => ?_) AllReadyH.nil
      simp only [List.getElem_toArray, List.getElem_cons_zero, List.getElem_cons_succ]
      go_simp
      refine (abs_any c k _ hc hk).mono ?_
      rintro e V3 ⟨A, cc, rfl, hl, hcm, hrd, hb'⟩
      go_wp2_with fail
      have hlo := hHeld.lt
      replace hHeld := hHeld.step hb'
      refine hK.out _ _ hHeld (fun _ => ?_)
      clear hK K
      try simp only [Act.put, List.setIfInBounds_toArray, List.set_cons_zero, List.set_cons_succ]
      replace hx := hx.keep hb'
      replace hrd := hrd.more (w' := V3) (Q' := fun b => w.heap.size + 1 ≤ b ∧ b < V3.heap.size ∧ b ≠ V1.heap.size) (Below.refl _ _) (fun b hb => ⟨hb.2, by omega⟩)
      refine wpAnyH_take (i := 19) (v := .agg (cardC ⟨1, (c : Int), false, priceF c (1 + (q4 : Int)) (k : Int), pw, tg, sy, []⟩ A (beastA c k).length cc)) rfl (by kernel_rfl) (by kernel_rfl) (by kernel_rfl) (fun _ _ _ h => h) (yields_card rfl rfl _ _ _ _ _ _ _ _ rfl rfl rfl rfl rfl rfl) hHeld ?_
      simp only [Act.put, List.getElem_toArray, List.getElem_cons_zero, List.getElem_cons_succ, List.setIfInBounds_toArray, List.set_cons_zero, List.set_cons_succ]
      have hs13 : (cardC ⟨1, (c : Int), false, priceF c (1 + (q4 : Int)) (k : Int), pw, tg, sy, []⟩ A (beastA c k).length cc).size = 13 := by simp [cardC, arr_size]
      refine wpAnyH_ready (rs := [21]) (by kernel_rfl) (by simp) ?_
      refine AllReadyH.cons rfl (fun K hK => ?_) AllReadyH.nil
      simp only [List.getElem_toArray, List.getElem_cons_zero, List.getElem_cons_succ]
      refine wp_store_row 27 (.tmp 5) (.tmp 25) rfl V1.heap.size (cardC ⟨1, (c : Int), false, priceF c (1 + (q4 : Int)) (k : Int), pw, tg, sy, []⟩ A (beastA c k).length cc) rfl rfl 27 zeroD hx (by rw [hs13]; exact size13) (by rw [hs13]; rfl) (card_one _ _ _ _) ?_
      refine hK.out _ _ (hHeld.setRow hPl) (fun _ => ?_)
      clear hK K
      try simp only [Act.put, List.setIfInBounds_toArray, List.set_cons_zero, List.set_cons_succ]
      refine wpAnyH_done (by kernel_rfl) ?_ _
      obtain ⟨W5, hW⟩ : ∃ W, W = V3.setRow V1.heap.size (cardC ⟨1, (c : Int), false, priceF c (1 + (q4 : Int)) (k : Int), pw, tg, sy, []⟩ A (beastA c k).length cc) := ⟨_, rfl⟩
      have hC5 : CdAt W5 V1.heap.size (cardC ⟨1, (c : Int), false, priceF c (1 + (q4 : Int)) (k : Int), pw, tg, sy, []⟩ A (beastA c k).length cc) := by rw [hW]; exact setRow_heap _ _ _ _ _ _ hx
      have HR5 := Lib.hid (show RdAQ (fun b => w.heap.size + 1 ≤ b ∧ b < W5.heap.size ∧ b ≠ V1.heap.size) W5 2 A (beastA c k) from hrd.keep (fun b hb => by rw [hW]; exact setRow_other _ _ _ _ hb.2.2) (fun b hb => by rw [hW, setRow_size]; exact hb))
      have hA5 : EAcc w zeroD 27 W5 [] := by rw [hW]; exact hHeld.setRow hPl
      rw [← hW]
      clear hW hHeld hx hrd hacc hs13
      obtain ⟨P, hP⟩ : ∃ P, P = V1.heap.size := ⟨_, rfl⟩
      rw [← hP] at hC5 HR5 hPl ⊢
      clear hP
      have HL := Lib.hid (And.intro hl hcm)
      have HL5 := Lib.hid hA5
      clear hl hcm
      go_upto_region 3 with fail
      by_cases h3 : c = 3
      · subst h3
        have k9 : W5.cell? ⟨P, 9, none⟩ = some (.int .i64 pw) := by rw [hC5.cell]; exact cd_power
        have f9 := frozen_of_row W5 P 9 _ _ hC5
        rw [show ((3 : Nat) : Int) = 3 from rfl]
        go_upto_region 7 with fail
        obtain ⟨W6, hW⟩ : ∃ W, W = W5.setCell ⟨P, 9, none⟩ (.int .i64 (pw + 1)) := ⟨_, rfl⟩
        have hC6 : CdAt W6 P (cardC ⟨1, ((3 : Nat) : Int), false, priceF 3 (1 + (q4 : Int)) (k : Int), pw + 1, tg, sy, []⟩ A (beastA 3 k).length cc) := by
          rw [hW]; have := heap_setCell_same W5 P 9 _ _ (.int .i64 (pw + 1)) hC5; rw [set_power] at this; exact this
        have hA6 : EAcc w zeroD 27 W6 [] := by rw [hW]; exact HL5.out.setCell hPl
        have HR6 := Lib.hid (show RdAQ (fun b => w.heap.size + 1 ≤ b ∧ b < W6.heap.size ∧ b ≠ P) W6 2 A (beastA 3 k) from HR5.out.keep (fun b hb => by rw [hW]; exact heap_setCell_other W5 ⟨P, 9, none⟩ b _ (by simpa using hb.2.2)) (fun b hb => by rw [hW]; simpa using hb))
        rw [← hW]
        clear hW k9 f9
        have hbc := beast_card hc hk HL.out.1 HL.out.2 HR6.out (beast_cost hc hk HQ.out.1) (show (pw + 1) = (beastC _ k).power from by rw [HV.out.1, HQ.out.2.1]; show _ = pairs8 k + 1; rw [pairs_half k hk]; omega) (show tg = (beastC _ k).tough from by rw [HV.out.2.1, HQ.out.2.2]; show _ = tough8 k + 0; rw [tough_half k hk]; omega) (show sy = (beastC _ k).says from HV.out.2.2)
        have HB := Lib.hid hbc
        have hsx := cq_info hbc
        have hcs := cq_size hbc
        have h1 := cq_one hbc
        clear hbc
        go_wp2_with (first
          | (refine wpList_load_row rfl 27 (.tmp 5) rfl P rfl 27 _ (0, 0) _ hC6 Tryd.underlying27 rfl hsx ?_)
          | (refine wpList_store_row rfl 27 _ _ rfl w.heap.size _ rfl rfl 27 zeroD (hA6).z hsx (by rw [hcs]; rfl) h1 ?_))
        exact card_end (p := 4) (by kernel_rfl) rfl rfl hA6 (HB.out.keep (fun _ _ => rfl) (fun _ hb => ⟨hb.1, hb.2.1⟩)) rfl
      · have d3 : ((c : Int) == 3) = false := by simp; omega
        by_cases h4 : c = 4
        · subst h4
          have k9 : W5.cell? ⟨P, 10, none⟩ = some (.int .i64 tg) := by rw [hC5.cell]; exact cd_tough
          have f9 := frozen_of_row W5 P 10 _ _ hC5
          rw [show ((4 : Nat) : Int) = 4 from rfl]
          go_upto_region 7 with fail
          obtain ⟨W6, hW⟩ : ∃ W, W = W5.setCell ⟨P, 10, none⟩ (.int .i64 (tg + 1)) := ⟨_, rfl⟩
          have hC6 : CdAt W6 P (cardC ⟨1, ((4 : Nat) : Int), false, priceF 4 (1 + (q4 : Int)) (k : Int), pw, tg + 1, sy, []⟩ A (beastA 4 k).length cc) := by
            rw [hW]; have := heap_setCell_same W5 P 10 _ _ (.int .i64 (tg + 1)) hC5; rw [set_tough] at this; exact this
          have hA6 : EAcc w zeroD 27 W6 [] := by rw [hW]; exact HL5.out.setCell hPl
          have HR6 := Lib.hid (show RdAQ (fun b => w.heap.size + 1 ≤ b ∧ b < W6.heap.size ∧ b ≠ P) W6 2 A (beastA 4 k) from HR5.out.keep (fun b hb => by rw [hW]; exact heap_setCell_other W5 ⟨P, 10, none⟩ b _ (by simpa using hb.2.2)) (fun b hb => by rw [hW]; simpa using hb))
          rw [← hW]
          clear hW k9 f9
          have hbc := beast_card hc hk HL.out.1 HL.out.2 HR6.out (beast_cost hc hk HQ.out.1) (show pw = (beastC _ k).power from by rw [HV.out.1, HQ.out.2.1]; show _ = pairs8 k + 0; rw [pairs_half k hk]; omega) (show (tg + 1) = (beastC _ k).tough from by rw [HV.out.2.1, HQ.out.2.2]; show _ = tough8 k + 1; rw [tough_half k hk]; omega) (show sy = (beastC _ k).says from HV.out.2.2)
          have HB := Lib.hid hbc
          have hsx := cq_info hbc
          have hcs := cq_size hbc
          have h1 := cq_one hbc
          clear hbc
          go_wp2_with (first
            | (refine wpList_load_row rfl 27 (.tmp 5) rfl P rfl 27 _ (0, 0) _ hC6 Tryd.underlying27 rfl hsx ?_)
            | (refine wpList_store_row rfl 27 _ _ rfl w.heap.size _ rfl rfl 27 zeroD (hA6).z hsx (by rw [hcs]; rfl) h1 ?_))
          exact card_end (p := 4) (by kernel_rfl) rfl rfl hA6 (HB.out.keep (fun _ _ => rfl) (fun _ hb => ⟨hb.1, hb.2.1⟩)) rfl
        · have d4 : ((c : Int) == 4) = false := by simp; omega
          go_upto_region 7 with fail
          have HN := Lib.hid (And.intro h3 h4)
          clear h3 h4
          have hbc := beast_card hc hk HL.out.1 HL.out.2 HR5.out (beast_cost hc hk HQ.out.1) (show pw = (beastC _ k).power from by rw [HV.out.1, HQ.out.2.1]; show _ = pairs8 k + (if c = 3 then 1 else 0); rw [if_neg HN.out.1, pairs_half k hk]; omega) (show tg = (beastC _ k).tough from by rw [HV.out.2.1, HQ.out.2.2]; show _ = tough8 k + (if c = 4 then 1 else 0); rw [if_neg HN.out.2, tough_half k hk]; omega) (show sy = (beastC _ k).says from HV.out.2.2)
          have HB := Lib.hid hbc
          have hsx := cq_info hbc
          have hcs := cq_size hbc
          have h1 := cq_one hbc
          clear hbc
          go_wp2_with (first
            | (refine wpList_load_row rfl 27 (.tmp 5) rfl P rfl 27 _ (0, 0) _ hC5 Tryd.underlying27 rfl hsx ?_)
            | (refine wpList_store_row rfl 27 _ _ rfl w.heap.size _ rfl rfl 27 zeroD (hA5).z hsx (by rw [hcs]; rfl) h1 ?_))
          exact card_end (p := 4) (by kernel_rfl) rfl rfl hA5 (HB.out.keep (fun _ _ => rfl) (fun _ hb => ⟨hb.1, hb.2.1⟩)) rfl
  · skip
    go_simp
    obtain ⟨V1, hW⟩ : ∃ W, W = V0.alloc (.cells zeroD 27) := ⟨_, rfl⟩
    have hx : CdAt V1 V0.heap.size zeroD := by rw [hW]; exact CdAt.new _ _
    have hb' : Below V0.heap.size V0 V1 := by rw [hW]; exact (Below.refl _ _).alloc (Nat.le_refl _) _
    have hPl := hHeld.lt
    have hlx := hx.lt
    rw [← hW]
    clear hW
    replace hHeld := hHeld.step hb'
    refine hK.out _ _ hHeld (fun _ => ?_)
    clear hK K
    try simp only [Act.put, List.setIfInBounds_toArray, List.set_cons_zero, List.set_cons_succ]
    refine wpAnyH_ready (rs := [6]) (by kernel_rfl) (by simp) ?_
    refine AllReadyH.cons rfl (fun K hK => ?_) AllReadyH.nil
    simp only [List.getElem_toArray, List.getElem_cons_zero, List.getElem_cons_succ]
    go_simp
    refine (mk_price c (1 + (q4 : Int)) (k : Int) _ (by omega) (by omega) (by omega) (by omega) (by omega)).mono ?_
    rintro e V2 ⟨rfl, hb'⟩
    go_wp2_with fail
    replace hHeld := hHeld.step hb'
    refine hK.out _ _ hHeld (fun _ => ?_)
    clear hK K
    try simp only [Act.put, List.setIfInBounds_toArray, List.set_cons_zero, List.set_cons_succ]
    replace hx := hx.keep hb'
    have hs2 := hb'.size
    refine wpAnyH_ready (rs := [18]) (by kernel_rfl) (by simp) ?_
    refine AllReadyH.cons rfl (fun K hK => ?_) AllReadyH.nil
    simp only [List.getElem_toArray, List.getElem_cons_zero, List.getElem_cons_succ]
    go_simp
    refine (abs_any c k _ hc hk).mono ?_
    rintro e V3 ⟨A, cc, rfl, hl, hcm, hrd, hb'⟩
    go_wp2_with fail
    have hlo := hHeld.lt
    replace hHeld := hHeld.step hb'
    refine hK.out _ _ hHeld (fun _ => ?_)
    clear hK K
    try simp only [Act.put, List.setIfInBounds_toArray, List.set_cons_zero, List.set_cons_succ]
    replace hx := hx.keep hb'
    replace hrd := hrd.more (w' := V3) (Q' := fun b => w.heap.size + 1 ≤ b ∧ b < V3.heap.size ∧ b ≠ V0.heap.size) (Below.refl _ _) (fun b hb => ⟨hb.2, by omega⟩)
    refine wpAnyH_take (i := 19) (v := .agg (cardC ⟨1, (c : Int), false, priceF c (1 + (q4 : Int)) (k : Int), pw, tg, sy, []⟩ A (beastA c k).length cc)) rfl (by kernel_rfl) (by kernel_rfl) (by kernel_rfl) (fun _ _ _ h => h) (yields_card rfl rfl _ _ _ _ _ _ _ _ rfl rfl rfl rfl rfl rfl) hHeld ?_
    simp only [Act.put, List.getElem_toArray, List.getElem_cons_zero, List.getElem_cons_succ, List.setIfInBounds_toArray, List.set_cons_zero, List.set_cons_succ]
    have hs13 : (cardC ⟨1, (c : Int), false, priceF c (1 + (q4 : Int)) (k : Int), pw, tg, sy, []⟩ A (beastA c k).length cc).size = 13 := by simp [cardC, arr_size]
    refine wpAnyH_ready (rs := [21]) (by kernel_rfl) (by simp) ?_
    refine AllReadyH.cons rfl (fun K hK => ?_) AllReadyH.nil
    simp only [List.getElem_toArray, List.getElem_cons_zero, List.getElem_cons_succ]
    refine wp_store_row 27 (.tmp 5) (.tmp 25) rfl V0.heap.size (cardC ⟨1, (c : Int), false, priceF c (1 + (q4 : Int)) (k : Int), pw, tg, sy, []⟩ A (beastA c k).length cc) rfl rfl 27 zeroD hx (by rw [hs13]; exact size13) (by rw [hs13]; rfl) (card_one _ _ _ _) ?_
    refine hK.out _ _ (hHeld.setRow hPl) (fun _ => ?_)
    clear hK K
    try simp only [Act.put, List.setIfInBounds_toArray, List.set_cons_zero, List.set_cons_succ]
    refine wpAnyH_done (by kernel_rfl) ?_ _
    obtain ⟨W5, hW⟩ : ∃ W, W = V3.setRow V0.heap.size (cardC ⟨1, (c : Int), false, priceF c (1 + (q4 : Int)) (k : Int), pw, tg, sy, []⟩ A (beastA c k).length cc) := ⟨_, rfl⟩
    have hC5 : CdAt W5 V0.heap.size (cardC ⟨1, (c : Int), false, priceF c (1 + (q4 : Int)) (k : Int), pw, tg, sy, []⟩ A (beastA c k).length cc) := by rw [hW]; exact setRow_heap _ _ _ _ _ _ hx
    have HR5 := Lib.hid (show RdAQ (fun b => w.heap.size + 1 ≤ b ∧ b < W5.heap.size ∧ b ≠ V0.heap.size) W5 2 A (beastA c k) from hrd.keep (fun b hb => by rw [hW]; exact setRow_other _ _ _ _ hb.2.2) (fun b hb => by rw [hW, setRow_size]; exact hb))
    have hA5 : EAcc w zeroD 27 W5 [] := by rw [hW]; exact hHeld.setRow hPl
    rw [← hW]
    clear hW hHeld hx hrd hacc hs13
    obtain ⟨P, hP⟩ : ∃ P, P = V0.heap.size := ⟨_, rfl⟩
    rw [← hP] at hC5 HR5 hPl ⊢
    clear hP
    have HL := Lib.hid (And.intro hl hcm)
    have HL5 := Lib.hid hA5
    clear hl hcm
    go_upto_region 3 with fail
    by_cases h3 : c = 3
    · subst h3
      have k9 : W5.cell? ⟨P, 9, none⟩ = some (.int .i64 pw) := by rw [hC5.cell]; exact cd_power
      have f9 := frozen_of_row W5 P 9 _ _ hC5
      rw [show ((3 : Nat) : Int) = 3 from rfl]
      go_upto_region 7 with fail
      obtain ⟨W6, hW⟩ : ∃ W, W = W5.setCell ⟨P, 9, none⟩ (.int .i64 (pw + 1)) := ⟨_, rfl⟩
      have hC6 : CdAt W6 P (cardC ⟨1, ((3 : Nat) : Int), false, priceF 3 (1 + (q4 : Int)) (k : Int), pw + 1, tg, sy, []⟩ A (beastA 3 k).length cc) := by
        rw [hW]; have := heap_setCell_same W5 P 9 _ _ (.int .i64 (pw + 1)) hC5; rw [set_power] at this; exact this
      have hA6 : EAcc w zeroD 27 W6 [] := by rw [hW]; exact HL5.out.setCell hPl
      have HR6 := Lib.hid (show RdAQ (fun b => w.heap.size + 1 ≤ b ∧ b < W6.heap.size ∧ b ≠ P) W6 2 A (beastA 3 k) from HR5.out.keep (fun b hb => by rw [hW]; exact heap_setCell_other W5 ⟨P, 9, none⟩ b _ (by simpa using hb.2.2)) (fun b hb => by rw [hW]; simpa using hb))
      rw [← hW]
      clear hW k9 f9
      have hbc := beast_card hc hk HL.out.1 HL.out.2 HR6.out (beast_cost hc hk HQ.out.1) (show (pw + 1) = (beastC _ k).power from by rw [HV.out.1, HQ.out.2.1]; show _ = pairs8 k + 1; rw [pairs_half k hk]; omega) (show tg = (beastC _ k).tough from by rw [HV.out.2.1, HQ.out.2.2]; show _ = tough8 k + 0; rw [tough_half k hk]; omega) (show sy = (beastC _ k).says from HV.out.2.2)
      have HB := Lib.hid hbc
      have hsx := cq_info hbc
      have hcs := cq_size hbc
      have h1 := cq_one hbc
      clear hbc
      go_wp2_with (first
        | (refine wpList_load_row rfl 27 (.tmp 5) rfl P rfl 27 _ (0, 0) _ hC6 Tryd.underlying27 rfl hsx ?_)
        | (refine wpList_store_row rfl 27 _ _ rfl w.heap.size _ rfl rfl 27 zeroD (hA6).z hsx (by rw [hcs]; rfl) h1 ?_))
      exact card_end (p := 4) (by kernel_rfl) rfl rfl hA6 (HB.out.keep (fun _ _ => rfl) (fun _ hb => ⟨hb.1, hb.2.1⟩)) rfl
    · have d3 : ((c : Int) == 3) = false := by simp; omega
      by_cases h4 : c = 4
      · subst h4
        have k9 : W5.cell? ⟨P, 10, none⟩ = some (.int .i64 tg) := by rw [hC5.cell]; exact cd_tough
        have f9 := frozen_of_row W5 P 10 _ _ hC5
        rw [show ((4 : Nat) : Int) = 4 from rfl]
        go_upto_region 7 with fail
        obtain ⟨W6, hW⟩ : ∃ W, W = W5.setCell ⟨P, 10, none⟩ (.int .i64 (tg + 1)) := ⟨_, rfl⟩
        have hC6 : CdAt W6 P (cardC ⟨1, ((4 : Nat) : Int), false, priceF 4 (1 + (q4 : Int)) (k : Int), pw, tg + 1, sy, []⟩ A (beastA 4 k).length cc) := by
          rw [hW]; have := heap_setCell_same W5 P 10 _ _ (.int .i64 (tg + 1)) hC5; rw [set_tough] at this; exact this
        have hA6 : EAcc w zeroD 27 W6 [] := by rw [hW]; exact HL5.out.setCell hPl
        have HR6 := Lib.hid (show RdAQ (fun b => w.heap.size + 1 ≤ b ∧ b < W6.heap.size ∧ b ≠ P) W6 2 A (beastA 4 k) from HR5.out.keep (fun b hb => by rw [hW]; exact heap_setCell_other W5 ⟨P, 10, none⟩ b _ (by simpa using hb.2.2)) (fun b hb => by rw [hW]; simpa using hb))
        rw [← hW]
        clear hW k9 f9
        have hbc := beast_card hc hk HL.out.1 HL.out.2 HR6.out (beast_cost hc hk HQ.out.1) (show pw = (beastC _ k).power from by rw [HV.out.1, HQ.out.2.1]; show _ = pairs8 k + 0; rw [pairs_half k hk]; omega) (show (tg + 1) = (beastC _ k).tough from by rw [HV.out.2.1, HQ.out.2.2]; show _ = tough8 k + 1; rw [tough_half k hk]; omega) (show sy = (beastC _ k).says from HV.out.2.2)
        have HB := Lib.hid hbc
        have hsx := cq_info hbc
        have hcs := cq_size hbc
        have h1 := cq_one hbc
        clear hbc
        go_wp2_with (first
          | (refine wpList_load_row rfl 27 (.tmp 5) rfl P rfl 27 _ (0, 0) _ hC6 Tryd.underlying27 rfl hsx ?_)
          | (refine wpList_store_row rfl 27 _ _ rfl w.heap.size _ rfl rfl 27 zeroD (hA6).z hsx (by rw [hcs]; rfl) h1 ?_))
        exact card_end (p := 4) (by kernel_rfl) rfl rfl hA6 (HB.out.keep (fun _ _ => rfl) (fun _ hb => ⟨hb.1, hb.2.1⟩)) rfl
      · have d4 : ((c : Int) == 4) = false := by simp; omega
        go_upto_region 7 with fail
        have HN := Lib.hid (And.intro h3 h4)
        clear h3 h4
        have hbc := beast_card hc hk HL.out.1 HL.out.2 HR5.out (beast_cost hc hk HQ.out.1) (show pw = (beastC _ k).power from by rw [HV.out.1, HQ.out.2.1]; show _ = pairs8 k + (if c = 3 then 1 else 0); rw [if_neg HN.out.1, pairs_half k hk]; omega) (show tg = (beastC _ k).tough from by rw [HV.out.2.1, HQ.out.2.2]; show _ = tough8 k + (if c = 4 then 1 else 0); rw [if_neg HN.out.2, tough_half k hk]; omega) (show sy = (beastC _ k).says from HV.out.2.2)
        have HB := Lib.hid hbc
        have hsx := cq_info hbc
        have hcs := cq_size hbc
        have h1 := cq_one hbc
        clear hbc
        go_wp2_with (first
          | (refine wpList_load_row rfl 27 (.tmp 5) rfl P rfl 27 _ (0, 0) _ hC5 Tryd.underlying27 rfl hsx ?_)
          | (refine wpList_store_row rfl 27 _ _ rfl w.heap.size _ rfl rfl 27 zeroD (hA5).z hsx (by rw [hcs]; rfl) h1 ?_))
        exact card_end (p := 4) (by kernel_rfl) rfl rfl hA5 (HB.out.keep (fun _ _ => rfl) (fun _ hb => ⟨hb.1, hb.2.1⟩)) rfl
end Go.Proofs.YtmdfgkfimlmmnaaDoor
namespace Go.Proofs.YtmdfgkfimlmmnaaDoor
open Go.RowKit Ex Mx
set_option maxRecDepth 100000
theorem wpList_index_of {ops : Array Oper} {rest : List Oper} {o : Oper} {a : Act} {w : World} {Q : Exit → Act → World → Prop} (hg : o.guard = none) {x y : Operand} (ho : o.op = .index 84 x y) {u : Nat → Array Value} {v : Array Value} {c : Nat}
    (hv : v = u 0 ++ u 1 ++ u 2 ++ u 3 ++ u 4) (ex : a.eval x = .agg v) (ey : a.eval y = .int .i64 (c : Int)) (hu : ∀ c < 5, (u c).size = 14) (hc : c < 5)
    (hK : wpList Tryd.prog ops Q rest (a.put o.dst (.agg (u c))) w) : wpList Tryd.prog ops Q (o :: rest) a w := by
  subst hv
  exact wpList_index_five hg ho ex ey hu hc hK
theorem wide_pr {c : Nat} {v : Int} (hc : c < 5) (h0 : 0 ≤ v) (h1 : v ≤ 100) : Wide (priceF c 1 v) := fun i _ => by
  rw [price_lo hc]
  simp only [updI, noC]
  split
  · omega
  · split <;> decide
theorem wide_price {c k : Nat} (hc : c < 5) (hk : k < 6) : Wide (priceF c 1 (k : Int)) := wide_pr hc (by omega) (by omega)
theorem card_cells (q : Int) (l : List AbT) (A : Option Addr) (k c : Nat) : cardC ⟨0, q, false, noC, 0, 0, 0, []⟩ A k c = cardC ⟨0, q, false, noC, 0, 0, 0, l⟩ A k c := rfl
theorem made_src (n : Nat) (w : World) (h1 : n < 5) : Calls Tryd.prog 20 #[.int .i64 (n : Int)] w (CardR (tblC n) w) := by
  have d0 : decide ((n : Int) < 5) = true := by simp; omega
  have HT := Lib.hid (show tblC n = ⟨0, (n : Int), false, noC, 0, 0, 0, [giveA 1 n]⟩ by unfold tblC; rw [if_pos h1])
  go_enter Tryd.func20, Tryd.ntmps20
  go_upto_region 1 with fail
  obtain ⟨w0, hw⟩ : ∃ W, W = w.alloc (.cells zeroD 27) := ⟨_, rfl⟩
  have hacc : EAcc w zeroD 27 w0 [] := by rw [hw]; exact ⟨(Below.refl _ _).alloc (Nat.le_refl _) _, heap_alloc_new _ _, by simp⟩
  rw [← hw]
  clear hw
  go_wp2_with fail
  refine (mk_manaTap _ _ _).mono ?_
  rintro e w1 ⟨rfl, hb1⟩
  replace hacc := hacc.step hb1
  have hal : EAcc w zeroD 27 (w1.alloc (.cells (abC (giveA 1 (n : Int)) (evC 15 1 (n : Int) 0 none 0 0)) 48)) [] := hacc.step ((Below.refl _ _).alloc (Nat.le_refl _) _)
  have hG := AbAt.new w1 (abC (giveA 1 (n : Int)) (evC 15 1 (n : Int) 0 none 0 0))
  have hl1 := hacc.lt
  go_wp2_with (refine wpList_buildSlice_ab rfl _ rfl _ (abE_size _ _ _ _ _ _ _ _) rfl ?_)
  refine (mk_source _ _ _ _ _).mono ?_
  rintro e w3 ⟨rfl, hb3⟩
  replace hacc := hal.step hb3
  have hG3 := hG.keep hb3
  have hl3 := hG3.lt
  have hcs : (cardC ⟨0, (n : Int), false, noC, 0, 0, 0, []⟩ (some ⟨w1.heap.size, 0, none⟩) 1 1).size = 13 := by simp [cardC, arr_size]
  clear hG hal
  go_wp2_with (refine wpList_store_row rfl 27 _ _ rfl w.heap.size _ rfl rfl 27 zeroD hacc.z (by rw [hcs]; exact size13) (by rw [hcs]; rfl) (card_one _ _ _ _) ?_)
  refine card_end (p := 2) (c' := ⟨0, (n : Int), false, noC, 0, 0, 0, [giveA 1 n]⟩) (by kernel_rfl) rfl rfl hacc ?_ HT.out.symm
  exact ⟨in_0, ⟨by show _ ≤ (n : Int); omega, by show (n : Int) ≤ _; omega⟩, wide_no, in_0, in_0, in_0, _, 1, rfl, Nat.le_refl _, by unfold maxLen; simp,
    one_ab hG3 (flatS 6 noC true 0 15 1 (n : Int) 0 ⟨by decide, by decide⟩ wide_no in_0 ⟨by decide, by decide⟩ in_1 ⟨by omega, by omega⟩ in_0 rfl) ⟨hl1, hl3⟩⟩
theorem made_src5 (n : Nat) (w : World) (h0 : 5 ≤ n) (h1 : n < 10) : Calls Tryd.prog 20 #[.int .i64 (n : Int)] w (CardR (tblC n) w) := by
  have d0 : decide ((n : Int) < 5) = false := by simp; omega
  have d1 : decide ((n : Int) < 10) = true := by simp; omega
  obtain ⟨k, hk⟩ : ∃ k, k = n - 5 := ⟨_, rfl⟩
  obtain ⟨q, hq⟩ : ∃ q, q = k / 2 := ⟨_, rfl⟩
  have v0 : IntKind.i64.wrap ((n : Int) - 5) = (k : Int) := by rw [i64_in (by omega) (by omega)]; omega
  have r0 : (k : Int).tdiv 2 = (q : Int) := by rw [Int.tdiv_eq_ediv_of_nonneg (by omega)]; omega
  have hk5 : k < 5 := by omega
  have hq3 : q < 3 := by omega
  have HT := Lib.hid (show tblC n = ⟨0, 5, false, noC, 0, 0, 0, [⟨2, noC, false, 0, .node 3 (1 + (k : Int)) 0 0 []⟩, giveA (1 + (q : Int)) 5]⟩ by
    unfold tblC
    rw [if_neg (by omega), if_pos h1, ← hk, show ((n - 4 : Nat) : Int) = 1 + (k : Int) by omega, hq]
    match k, hk5 with
    | 0, _ => rfl
    | 1, _ => rfl
    | 2, _ => rfl
    | 3, _ => rfl
    | 4, _ => rfl)
  clear hk hq
  go_enter Tryd.func20, Tryd.ntmps20
  go_upto_region 1 with fail
  obtain ⟨w0, hw⟩ : ∃ W, W = w.alloc (.cells zeroD 27) := ⟨_, rfl⟩
  have hacc : EAcc w zeroD 27 w0 [] := by rw [hw]; exact ⟨(Below.refl _ _).alloc (Nat.le_refl _) _, heap_alloc_new _ _, by simp⟩
  rw [← hw]
  clear hw
  go_upto_region 5 with fail
  clear v0 d0 d1
  go_wp2_with fail
  refine (mk_effect _ _ _ _ _).mono ?_
  rintro e w1 ⟨rfl, hb1⟩
  go_wp2_with fail
  refine (mk_at _ _ _ _ _ _ _ _ _).mono ?_
  rintro e w2 ⟨rfl, hb2⟩
  rw [ab14]
  go_wp2_with fail
  refine (mk_manaTap _ _ _).mono ?_
  rintro e w3 ⟨rfl, hb3⟩
  rw [show abC (giveA (1 + (q : Int)) 5) (evC 15 (1 + (q : Int)) 5 0 none 0 0) = #[.int .i64 6, .int .i64 0, .int .i64 0, .int .i64 0, .int .i64 0, .int .i64 0, .int .i64 0, .bool true, .int .i64 0, .int .i64 15, .int .i64 (1 + (q : Int)), .int .i64 5, .int .i64 0, .slice none 0 0] from ab14 6 noC true 0 15 _ 5 0 none 0 0]
  replace hacc := ((hacc.step hb1).step hb2).step hb3
  have hl1 := hacc.lt
  have hal : ∀ o : Obj, EAcc w zeroD 27 (w3.alloc o) [] := fun o => hacc.step ((Below.refl _ _).alloc (Nat.le_refl _) _)
  go_wp2_with fail
  refine (mk_source _ _ _ _ _).mono ?_
  rintro e w4 ⟨rfl, hb4⟩
  replace hacc := (hal _).step hb4
  have hG := AbAt.keep (AbAt.new w3 _) hb4
  have hl3 := hG.lt
  have hcs : (cardC ⟨0, 5, false, noC, 0, 0, 0, []⟩ (some ⟨w3.heap.size, 0, none⟩) 2 2).size = 13 := by simp [cardC, arr_size]
  clear hal
  go_wp2_with (refine wpList_store_row rfl 27 _ _ rfl w.heap.size _ rfl rfl 27 zeroD hacc.z (by rw [hcs]; exact size13) (by rw [hcs]; rfl) (card_one _ _ _ _) ?_)
  refine card_end (p := 2) (c' := ⟨0, 5, false, noC, 0, 0, 0, [⟨2, noC, false, 0, .node 3 (1 + (k : Int)) 0 0 []⟩, giveA (1 + (q : Int)) 5]⟩) (by kernel_rfl) rfl rfl hacc ?_ HT.out.symm
  refine ⟨in_0, in_5, wide_no, in_0, in_0, in_0, _, 2, rfl, Nat.le_refl _, by unfold maxLen; simp, ?_⟩
  exact two_ab (ys := abC ⟨2, noC, false, 0, .node 3 (1 + (k : Int)) 0 0 []⟩ (evC 3 (1 + (k : Int)) 0 0 none 0 0)) (zs := abC (giveA (1 + (q : Int)) 5) (evC 15 (1 + (q : Int)) 5 0 none 0 0))
    (by rw [ab14, show abC (giveA (1 + (q : Int)) 5) (evC 15 (1 + (q : Int)) 5 0 none 0 0) = _ from ab14 6 noC true 0 15 _ 5 0 none 0 0]; exact hG)
    (flatS _ _ _ _ _ _ _ _ in_2 wide_no in_0 in_3 ⟨by omega, by omega⟩ in_0 in_0 rfl) (flatS 6 noC true 0 15 _ 5 0 ⟨by decide, by decide⟩ wide_no in_0 ⟨by decide, by decide⟩ ⟨by omega, by omega⟩ in_5 in_0 rfl) ⟨hl1, hl3⟩
theorem made_beast (n : Nat) (w : World) (h0 : 10 ≤ n) (h1 : n < 50) : Calls Tryd.prog 20 #[.int .i64 (n : Int)] w (CardR (tblC n) w) := by
  have d0 : decide ((n : Int) < 5) = false := by simp; omega
  have d1 : decide ((n : Int) < 10) = false := by simp; omega
  have d2 : decide ((n : Int) < 50) = true := by simp; omega
  obtain ⟨x, hx⟩ : ∃ x, x = n - 10 := ⟨_, rfl⟩
  have v0 : IntKind.i64.wrap ((n : Int) - 10) = (x : Int) := by rw [i64_in (by omega) (by omega)]; omega
  have hx4 : x < 40 := by omega
  have HT := Lib.hid (show beastC (x % 5) (x / 5) = tblC n by
    have ht : tblC n = ⟨1, ((n % 5 : Nat) : Int), false, updI (updI noC (n % 5) (if 3 < (n - 10) / 5 then 2 else 1)) 5 (((n - 10) / 5 : Nat) : Int), pairs8 ((n - 10) / 5) + (if n % 5 = 3 then 1 else 0), tough8 ((n - 10) / 5) + (if n % 5 = 4 then 1 else 0), says8 ((n - 10) / 5), beastA (n % 5) ((n - 10) / 5)⟩ := by
      unfold tblC; rw [if_neg (by omega), if_neg (by omega), if_pos h1]
    rw [ht, ← hx, show n % 5 = x % 5 by omega]
    rfl)
  clear hx h0 h1
  go_enter Tryd.func20, Tryd.ntmps20
  go_upto_region 1 with fail
  obtain ⟨w0, hw⟩ : ∃ W, W = w.alloc (.cells zeroD 27) := ⟨_, rfl⟩
  have hacc : EAcc w zeroD 27 w0 [] := by rw [hw]; exact ⟨(Below.refl _ _).alloc (Nat.le_refl _) _, heap_alloc_new _ _, by simp⟩
  rw [← hw]
  clear hw
  have hacc0 := hacc
  go_wp2_with fail
  refine (mk_split x _ (by omega)).mono ?_
  rintro e w1 ⟨rfl, rfl⟩
  go_wp2_with fail
  refine (beast_any (x % 5) (x / 5) _ (by omega) (by omega)).mono ?_
  rintro e w9 ⟨cs, rfl, hr, hb9⟩
  replace hacc := hacc.step hb9
  have hsx := cq_info hr
  have hcs := cq_size hr
  have h1 := cq_one hr
  have HR := Lib.hid hr
  clear hr
  go_wp2_with (refine wpList_store_row rfl 27 _ _ rfl w.heap.size cs rfl rfl 27 zeroD hacc.z hsx (by rw [hcs]; rfl) h1 ?_)
  exact card_end (p := 2) (by kernel_rfl) rfl rfl hacc (HR.out.keep (fun _ _ => rfl) (fun _ hb => ⟨Nat.lt_of_lt_of_le hacc0.lt hb.1, hb.2⟩)) HT.out
theorem made_single (n : Nat) (w : World) (h0 : 100 ≤ n) (h1 : n < 112) : Calls Tryd.prog 20 #[.int .i64 (n : Int)] w (CardR (tblC n) w) := by
  have d0 : decide ((n : Int) < 5) = false := by simp; omega
  have d1 : decide ((n : Int) < 10) = false := by simp; omega
  have d2 : decide ((n : Int) < 50) = false := by simp; omega
  have d3 : decide ((n : Int) < 80) = false := by simp; omega
  have d4 : decide ((n : Int) < 100) = false := by simp; omega
  have d5 : decide ((n : Int) < 112) = true := by simp; omega
  go_enter Tryd.func20, Tryd.ntmps20
  go_upto_region 1 with fail
  obtain ⟨w0, hw⟩ : ∃ W, W = w.alloc (.cells zeroD 27) := ⟨_, rfl⟩
  have hacc : EAcc w zeroD 27 w0 [] := by rw [hw]; exact ⟨(Below.refl _ _).alloc (Nat.le_refl _) _, heap_alloc_new _ _, by simp⟩
  rw [← hw]
  clear hw
  have hacc0 := hacc
  go_wp2_with fail
  have hs := single_any (n - 100) w0 (by omega)
  rw [show 100 + (n - 100) = n by omega] at hs
  refine hs.mono ?_
  rintro e w9 ⟨cs, rfl, hr, hb9⟩
  replace hacc := hacc.step hb9
  have hsx := cq_info hr
  have hcs := cq_size hr
  have h1 := cq_one hr
  have HR := Lib.hid hr
  clear hr
  go_wp2_with (refine wpList_store_row rfl 27 _ _ rfl w.heap.size cs rfl rfl 27 zeroD hacc.z hsx (by rw [hcs]; rfl) h1 ?_)
  exact card_end (p := 2) (by kernel_rfl) rfl rfl hacc (HR.out.keep (fun _ _ => rfl) (fun _ hb => ⟨Nat.lt_of_lt_of_le hacc0.lt hb.1, hb.2⟩)) rfl
theorem made_token (n : Nat) (w : World) (h0 : 112 ≤ n) (h1 : n < 120) : Calls Tryd.prog 20 #[.int .i64 (n : Int)] w (CardR (tblC n) w) := by
  have d0 : decide ((n : Int) < 5) = false := by simp; omega
  have d1 : decide ((n : Int) < 10) = false := by simp; omega
  have d2 : decide ((n : Int) < 50) = false := by simp; omega
  have d3 : decide ((n : Int) < 80) = false := by simp; omega
  have d4 : decide ((n : Int) < 100) = false := by simp; omega
  have d5 : decide ((n : Int) < 112) = false := by simp; omega
  obtain ⟨k, hk⟩ : ∃ k, k = n - 112 := ⟨_, rfl⟩
  have v0 : IntKind.i64.wrap ((n : Int) - 112) = (k : Int) := by rw [i64_in (by omega) (by omega)]; omega
  have hk8 : k < 8 := by omega
  have HT := Lib.hid (show (⟨1, 5, false, noC, ((k / 2 + 1 : Nat) : Int), ((k / 2 + 1 : Nat) : Int), ((k % 2 : Nat) : Int), []⟩ : CardT) = tblC n by
    unfold tblC
    rw [if_neg (by omega), if_neg (by omega), if_neg (by omega), if_neg (by omega), if_neg (by omega), if_neg (by omega), ← hk, pairs_half k hk8, show n % 2 = k % 2 by omega])
  clear hk h0 h1
  go_enter Tryd.func20, Tryd.ntmps20
  go_upto_region 1 with fail
  obtain ⟨w0, hw⟩ : ∃ W, W = w.alloc (.cells zeroD 27) := ⟨_, rfl⟩
  have hacc : EAcc w zeroD 27 w0 [] := by rw [hw]; exact ⟨(Below.refl _ _).alloc (Nat.le_refl _) _, heap_alloc_new _ _, by simp⟩
  rw [← hw]
  clear hw
  have hacc0 := hacc
  go_wp2_with fail
  refine (mk_token k _ hk8).mono ?_
  rintro e w9 ⟨rfl, hb9⟩
  replace hacc := hacc.step hb9
  have hcs : (cardC ⟨1, 5, false, noC, ((k / 2 + 1 : Nat) : Int), ((k / 2 + 1 : Nat) : Int), ((k % 2 : Nat) : Int), []⟩ none 0 0).size = 13 := by simp [cardC, arr_size]
  have h1c := card_one ⟨1, 5, false, noC, ((k / 2 + 1 : Nat) : Int), ((k / 2 + 1 : Nat) : Int), ((k % 2 : Nat) : Int), []⟩ none 0 0
  obtain ⟨cs, he⟩ : ∃ cs, cs = cardC ⟨1, 5, false, noC, ((k / 2 + 1 : Nat) : Int), ((k / 2 + 1 : Nat) : Int), ((k % 2 : Nat) : Int), []⟩ none 0 0 := ⟨_, rfl⟩
  rw [← he] at hcs h1c ⊢
  have HE := Lib.hid he
  clear he
  go_wp2_with (refine wpList_store_row rfl 27 _ _ rfl w.heap.size cs rfl rfl 27 zeroD hacc.z (by rw [hcs]; exact size13) (by rw [hcs]; rfl) h1c ?_)
  refine card_end (p := 2) (c' := ⟨1, 5, false, noC, ((k / 2 + 1 : Nat) : Int), ((k / 2 + 1 : Nat) : Int), ((k % 2 : Nat) : Int), []⟩) (by kernel_rfl) rfl rfl hacc ?_ HT.out
  exact ⟨in_1, in_5, wide_no, ⟨by show _ ≤ ((k / 2 + 1 : Nat) : Int); omega, by show ((k / 2 + 1 : Nat) : Int) ≤ _; omega⟩, ⟨by show _ ≤ ((k / 2 + 1 : Nat) : Int); omega, by show ((k / 2 + 1 : Nat) : Int) ≤ _; omega⟩, ⟨by show _ ≤ ((k % 2 : Nat) : Int); omega, by show ((k % 2 : Nat) : Int) ≤ _; omega⟩, none, 0, HE.out, Nat.le_refl _, by unfold maxLen; simp, no_ab⟩
theorem made_magic (n : Nat) (w : World) (h0 : 50 ≤ n) (h1 : n < 80) : Calls Tryd.prog 20 #[.int .i64 (n : Int)] w (CardR (tblC n) w) := by
  have d0 : decide ((n : Int) < 5) = false := by simp; omega
  have d1 : decide ((n : Int) < 10) = false := by simp; omega
  have d2 : decide ((n : Int) < 50) = false := by simp; omega
  have d3 : decide ((n : Int) < 80) = true := by simp; omega
  obtain ⟨x, hx⟩ : ∃ x, x = n - 50 := ⟨_, rfl⟩
  have v0 : IntKind.i64.wrap ((n : Int) - 50) = (x : Int) := by rw [i64_in (by omega) (by omega)]; omega
  have hx3 : x < 30 := by omega
  obtain ⟨c, hc⟩ : ∃ c, c = x % 5 := ⟨_, rfl⟩
  obtain ⟨k, hk⟩ : ∃ c, c = x / 5 := ⟨_, rfl⟩
  obtain ⟨k2, hk2⟩ : ∃ c, c = k % 2 := ⟨_, rfl⟩
  have HT := Lib.hid (show (⟨2, (c : Int), ((k2 : Int) == 0), priceF c 1 (k : Int), 0, 0, 0, [spellT k c]⟩ : CardT) = tblC n by
    unfold tblC spellT
    rw [if_neg (by omega), if_neg (by omega), if_neg (by omega), if_pos h1, ← hx, show n % 5 = c by omega, ← hk, ← hk2, show 5 * k + c = x by omega, price_lo (by omega),
      show ((k2 : Int) == 0) = (k2 == 0) by
        have : k2 = 0 ∨ k2 = 1 := by omega
        rcases this with h | h <;> rw [h] <;> rfl])
  have hc5 : c < 5 := by omega
  have hk6 : k < 6 := by omega
  have hq2 : k2 < 2 := by omega
  have r2 : (k : Int).tmod 2 = (k2 : Int) := by rw [Int.tmod_eq_emod_of_nonneg (by omega)]; omega
  have hspl := fun W => mk_split x W (by omega)
  rw [← hc, ← hk] at hspl
  clear hx hc hk hk2 h0 h1
  go_enter Tryd.func20, Tryd.ntmps20
  go_upto_region 1 with fail
  obtain ⟨w0, hw⟩ : ∃ W, W = w.alloc (.cells zeroD 27) := ⟨_, rfl⟩
  have hacc : EAcc w zeroD 27 w0 [] := by rw [hw]; exact ⟨(Below.refl _ _).alloc (Nat.le_refl _) _, heap_alloc_new _ _, by simp⟩
  rw [← hw]
  clear hw
  go_wp2_with fail
  refine (hspl _).mono ?_
  rintro e w1 ⟨rfl, rfl⟩
  clear hspl
  go_wp2_with fail
  refine (mk_price c 1 (k : Int) _ (by omega) (by decide) (by decide) (by omega) (by omega)).mono ?_
  rintro e w2 ⟨rfl, hb2⟩
  replace hacc := hacc.step hb2
  have hacc0 := hacc
  go_wp2_with fail
  refine (spells_any k _ hk6).mono ?_
  rintro e w3 ⟨u, rfl, hu, hb3⟩
  obtain ⟨v, hv⟩ : ∃ v, v = u 0 ++ u 1 ++ u 2 ++ u 3 ++ u 4 := ⟨_, rfl⟩
  rw [← hv]
  have HV := Lib.hid hv
  clear hv
  replace hacc := hacc.step hb3
  have hs14 := fun c hc => (hu c hc).size
  have HU := Lib.hid hu
  clear hu
  go_wp2_with (refine wpList_index_of rfl rfl HV.out rfl rfl hs14 hc5 ?_)
  refine (mk_magic (c : Int) ((k2 : Int) == 0) (priceF c 1 (k : Int)) (spellT k c) _ w2.heap.size _ hb3.size ⟨by omega, by omega⟩ (wide_price hc5 hk6) (HU.out c hc5)).mono ?_
  clear hs14
  rintro e w9 ⟨cs, rfl, hr, hb9⟩
  replace hacc := hacc.step hb9
  have hsx := cq_info hr
  have hcs := cq_size hr
  have h1 := cq_one hr
  have HR := Lib.hid hr
  clear hr
  go_wp2_with (refine wpList_store_row rfl 27 _ _ rfl w.heap.size cs rfl rfl 27 zeroD hacc.z hsx (by rw [hcs]; rfl) h1 ?_)
  exact card_end (p := 2) (by kernel_rfl) rfl rfl hacc (HR.out.keep (fun _ _ => rfl) (fun _ hb => ⟨Nat.lt_of_lt_of_le hacc0.lt hb.1, hb.2⟩)) HT.out
theorem made_relic (n : Nat) (w : World) (h0 : 80 ≤ n) (h1 : n < 100) : Calls Tryd.prog 20 #[.int .i64 (n : Int)] w (CardR (tblC n) w) := by
  have d0 : decide ((n : Int) < 5) = false := by simp; omega
  have d1 : decide ((n : Int) < 10) = false := by simp; omega
  have d2 : decide ((n : Int) < 50) = false := by simp; omega
  have d3 : decide ((n : Int) < 80) = false := by simp; omega
  have d4 : decide ((n : Int) < 100) = true := by simp; omega
  obtain ⟨x, hx⟩ : ∃ x, x = n - 80 := ⟨_, rfl⟩
  have v0 : IntKind.i64.wrap ((n : Int) - 80) = (x : Int) := by rw [i64_in (by omega) (by omega)]; omega
  have hx3 : x < 20 := by omega
  obtain ⟨c, hc⟩ : ∃ c, c = x % 5 := ⟨_, rfl⟩
  obtain ⟨k, hk⟩ : ∃ c, c = x / 5 := ⟨_, rfl⟩
  have HT := Lib.hid (show (⟨3, (c : Int), false, priceF c 1 ((k : Int) + 1), 0, 0, 0, [relicT k c]⟩ : CardT) = tblC n by
    unfold tblC relicT
    rw [if_neg (by omega), if_neg (by omega), if_neg (by omega), if_neg (by omega), if_pos h1, ← hx, show n % 5 = c by omega, ← hk, show 5 * k + c = x by omega, price_lo (by omega), show ((k + 1 : Nat) : Int) = (k : Int) + 1 by omega])
  have hc5 : c < 5 := by omega
  have hk6 : k < 4 := by omega
  have hspl := fun W => mk_split x W (by omega)
  rw [← hc, ← hk] at hspl
  clear hx hc hk h0 h1
  go_enter Tryd.func20, Tryd.ntmps20
  go_upto_region 1 with fail
  obtain ⟨w0, hw⟩ : ∃ W, W = w.alloc (.cells zeroD 27) := ⟨_, rfl⟩
  have hacc : EAcc w zeroD 27 w0 [] := by rw [hw]; exact ⟨(Below.refl _ _).alloc (Nat.le_refl _) _, heap_alloc_new _ _, by simp⟩
  rw [← hw]
  clear hw
  go_wp2_with fail
  refine (hspl _).mono ?_
  rintro e w1 ⟨rfl, rfl⟩
  clear hspl
  go_wp2_with fail
  refine (mk_price c 1 ((k : Int) + 1) _ (by omega) (by decide) (by decide) (by omega) (by omega)).mono ?_
  rintro e w2 ⟨rfl, hb2⟩
  replace hacc := hacc.step hb2
  have hacc0 := hacc
  go_wp2_with fail
  refine (relics_any k _ hk6).mono ?_
  rintro e w3 ⟨u, rfl, hu, hb3⟩
  obtain ⟨v, hv⟩ : ∃ v, v = u 0 ++ u 1 ++ u 2 ++ u 3 ++ u 4 := ⟨_, rfl⟩
  rw [← hv]
  have HV := Lib.hid hv
  clear hv
  replace hacc := hacc.step hb3
  have hs14 := fun c hc => (hu c hc).size
  have HU := Lib.hid hu
  clear hu
  go_wp2_with (refine wpList_index_of rfl rfl HV.out rfl rfl hs14 hc5 ?_)
  refine (mk_relic (c : Int) (priceF c 1 ((k : Int) + 1)) (relicT k c) _ w2.heap.size _ hb3.size ⟨by omega, by omega⟩ (wide_pr hc5 (by omega) (by omega)) (HU.out c hc5)).mono ?_
  clear hs14
  rintro e w9 ⟨cs, rfl, hr, hb9⟩
  replace hacc := hacc.step hb9
  have hsx := cq_info hr
  have hcs := cq_size hr
  have h1 := cq_one hr
  have HR := Lib.hid hr
  clear hr
  go_wp2_with (refine wpList_store_row rfl 27 _ _ rfl w.heap.size cs rfl rfl 27 zeroD hacc.z hsx (by rw [hcs]; rfl) h1 ?_)
  exact card_end (p := 2) (by kernel_rfl) rfl rfl hacc (HR.out.keep (fun _ _ => rfl) (fun _ hb => ⟨Nat.lt_of_lt_of_le hacc0.lt hb.1, hb.2⟩)) HT.out
/-- The card of any number that there is. -/
theorem made_any (n : Nat) (w : World) (hn : n < 120) : Calls Tryd.prog 20 #[.int .i64 (n : Int)] w (CardR (tblC n) w) := by
  by_cases h5 : n < 5
  · exact made_src n w h5
  · by_cases h10 : n < 10
    · exact made_src5 n w (by omega) h10
    · by_cases h50 : n < 50
      · exact made_beast n w (by omega) h50
      · by_cases h80 : n < 80
        · exact made_magic n w (by omega) h80
        · by_cases h100 : n < 100
          · exact made_relic n w (by omega) h100
          · by_cases h112 : n < 112
            · exact made_single n w (by omega) h112
            · exact made_token n w (by omega) hn
end Go.Proofs.YtmdfgkfimlmmnaaDoor
namespace Go.Proofs.YtmdfgkfimlmmnaaDoor
open Go.RowKit Ex Mx Wx
set_option maxRecDepth 100000
theorem zeroD_reads (Q : Nat → Prop) (W : World) : ReadsCQ Q W 2 zeroD zeroT := ⟨in_0, in_0, wide_no, in_0, in_0, in_0, none, 0, zeroD_card, Nat.le_refl _, by unfold maxLen; simp, no_ab⟩
theorem card_code (x : Int) (w : World) (hx : In64 x) :
    Calls Tryd.prog 8 #[.int .i64 x] w (fun e w' => ∃ d cs, e = .returned (.tuple #[.agg cs, errV (if isN x = true then 0 else 4)]) ∧ ReadsCQ (fun b => w.heap.size ≤ b ∧ b < w'.heap.size) w' d cs (tblX x) ∧ Below w.heap.size w w') := by
  by_cases h : 0 ≤ x ∧ x ≤ 119
  · rw [show tblX x = tblC x.toNat from if_pos h, show isN x = true from decide_eq_true h, if_pos rfl, errV_nil]
    obtain ⟨n, rfl⟩ : ∃ n : Nat, x = (n : Int) := ⟨x.toNat, by omega⟩
    rw [Int.toNat_natCast]
    have d0 : decide ((n : Int) < 0) = false := by simp
    have d1 : decide ((120 : Int) ≤ (n : Int)) = false := by simp; omega
    have hn : n < 120 := by omega
    clear h hx
    go_enter Tryd.func8, Tryd.ntmps8
    go_upto_region 1 with fail
    obtain ⟨w0, hw⟩ : ∃ W, W = w.alloc (.cells zeroD 27) := ⟨_, rfl⟩
    have hacc : EAcc w zeroD 27 w0 [] := by rw [hw]; exact ⟨(Below.refl _ _).alloc (Nat.le_refl _) _, heap_alloc_new _ _, by simp⟩
    rw [← hw]
    clear hw
    go_wp2_with fail
    refine (made_any n w0 hn).mono ?_
    rintro e w1 ⟨cs, rfl, hr, hb1⟩
    have hlt := hacc.lt
    replace hacc := hacc.step hb1
    have hsx := cq_info hr
    have hcs := cq_size hr
    have h1 := cq_one hr
    have HR := Lib.hid hr
    clear hr
    go_wp2_with (refine wpList_store_row rfl 27 (.tmp 2) (.tmp 13) rfl w.heap.size cs rfl rfl 27 zeroD hacc.z hsx (by rw [hcs]; rfl) h1 ?_)
    refine bodyPost_ret (v := .tuple #[.agg cs, .nilIface]) ?_ rfl ⟨2, cs, rfl, HR.out.keep (fun b hb => setRow_other _ _ _ _ (by omega)) (fun b hb => ⟨by omega, by rw [setRow_size]; exact hb.2⟩), below_setRow hacc.b _ _ (Nat.le_refl _)⟩
    exact results_cell_tmp (ty := 27) (p := 2) (q := 3) (by kernel_rfl) _ _ w.heap.size 27 _ (0, 0) _ rfl (setRow_heap _ _ _ _ _ _ hacc.z) Tryd.underlying27 rfl hsx
  · rw [show tblX x = zeroT from if_neg h, show isN x = false from decide_eq_false h, if_neg (by decide)]
    by_cases h0 : x < 0
    · have d0 : decide (x < 0) = true := decide_eq_true h0
      clear h h0
      go_enter Tryd.func8, Tryd.ntmps8
      go_upto_region 1 with fail
      obtain ⟨w0, hw⟩ : ∃ W, W = w.alloc (.cells zeroD 27) := ⟨_, rfl⟩
      have hacc : EAcc w zeroD 27 w0 [] := by rw [hw]; exact ⟨(Below.refl _ _).alloc (Nat.le_refl _) _, heap_alloc_new _ _, by simp⟩
      rw [← hw]
      clear hw
      have h1 : zeroD.all (·.oneCell') = true := cq_one (zeroD_reads (fun _ => True) w0)
      go_wp2_with (refine wpList_store_row rfl 27 (.tmp 2) (.tmp 10) rfl w.heap.size zeroD rfl rfl 27 zeroD hacc.z size13 rfl h1 ?_)
      refine bodyPost_ret (v := .tuple #[.agg zeroD, errV 4]) ?_ rfl ⟨2, zeroD, rfl, zeroD_reads _ _, below_setRow hacc.b _ _ (Nat.le_refl _)⟩
      exact results_cell_tmp (ty := 27) (p := 2) (q := 3) (by kernel_rfl) _ _ w.heap.size 27 _ (0, 0) _ rfl (setRow_heap _ _ _ _ _ _ hacc.z) Tryd.underlying27 rfl size13
    · have d0 : decide (x < 0) = false := decide_eq_false h0
      have d1 : decide ((120 : Int) ≤ x) = true := decide_eq_true (by omega)
      clear h h0
      go_enter Tryd.func8, Tryd.ntmps8
      go_upto_region 1 with fail
      obtain ⟨w0, hw⟩ : ∃ W, W = w.alloc (.cells zeroD 27) := ⟨_, rfl⟩
      have hacc : EAcc w zeroD 27 w0 [] := by rw [hw]; exact ⟨(Below.refl _ _).alloc (Nat.le_refl _) _, heap_alloc_new _ _, by simp⟩
      rw [← hw]
      clear hw
      have h1 : zeroD.all (·.oneCell') = true := cq_one (zeroD_reads (fun _ => True) w0)
      go_wp2_with (refine wpList_store_row rfl 27 (.tmp 2) (.tmp 10) rfl w.heap.size zeroD rfl rfl 27 zeroD hacc.z size13 rfl h1 ?_)
      refine bodyPost_ret (v := .tuple #[.agg zeroD, errV 4]) ?_ rfl ⟨2, zeroD, rfl, zeroD_reads _ _, below_setRow hacc.b _ _ (Nat.le_refl _)⟩
      exact results_cell_tmp (ty := 27) (p := 2) (q := 3) (by kernel_rfl) _ _ w.heap.size 27 _ (0, 0) _ rfl (setRow_heap _ _ _ _ _ _ hacc.z) Tryd.underlying27 rfl size13
namespace Ex
/-- The first part of a name. -/
def wordN (n : Nat) (kd : Int) : List Int := if n < 112 then wordK kd else [116, 111, 107, 101, 110]
end Ex
theorem word_any (n : Nat) (kd : Int) (w : World) (hn : n < 120) : Calls Tryd.prog 28 #[.int .i64 (n : Int), .int .i64 kd] w fun e w' => e = .returned (.string (strOfNums (wordN n kd))) ∧ w' = w := by
  by_cases h : n < 112
  · have d0 : decide ((112 : Int) ≤ (n : Int)) = false := by simp; omega
    rw [show wordN n kd = wordK kd from if_pos h]
    clear h hn
    by_cases k0 : kd = 0
    · subst k0
      rw [show strOfNums (wordK 0) = ⟨#[115, 111, 117, 114, 99, 101]⟩ from rfl]
      go_enter Tryd.func28, Tryd.ntmps28
      go_wp2_with fail
      go_ret
      exact ⟨rfl, rfl⟩
    · by_cases k1 : kd = 1
      · subst k1
        rw [show strOfNums (wordK 1) = ⟨#[98, 101, 97, 115, 116]⟩ from rfl]
        go_enter Tryd.func28, Tryd.ntmps28
        go_wp2_with fail
        go_ret
        exact ⟨rfl, rfl⟩
      · by_cases k2 : kd = 2
        · subst k2
          rw [show strOfNums (wordK 2) = ⟨#[109, 97, 103, 105, 99]⟩ from rfl]
          go_enter Tryd.func28, Tryd.ntmps28
          go_wp2_with fail
          go_ret
          exact ⟨rfl, rfl⟩
        · have e0 : (kd == 0) = false := by simpa using k0
          have e1 : (kd == 1) = false := by simpa using k1
          have e2 : (kd == 2) = false := by simpa using k2
          rw [show wordK kd = [114, 101, 108, 105, 99] by unfold wordK; rw [if_neg k0, if_neg k1, if_neg k2], show strOfNums [114, 101, 108, 105, 99] = ⟨#[114, 101, 108, 105, 99]⟩ from rfl]
          clear k0 k1 k2
          go_enter Tryd.func28, Tryd.ntmps28
          go_wp2_with fail
          go_ret
          exact ⟨rfl, rfl⟩
  · have d0 : decide ((112 : Int) ≤ (n : Int)) = true := by simp; omega
    rw [show wordN n kd = [116, 111, 107, 101, 110] from if_neg h, show strOfNums [116, 111, 107, 101, 110] = ⟨#[116, 111, 107, 101, 110]⟩ from rfl]
    clear h hn
    go_enter Tryd.func28, Tryd.ntmps28
    go_wp2_with fail
    go_ret
    exact ⟨rfl, rfl⟩
theorem name_code {z : World} (T : TabT z) (x : Int) (w : World) (hx : In64 x) (hz : Below z.heap.size z w) : Calls Tryd.prog 12 #[.int .i64 x] w fun e w' => e = .returned (.string (strOfNums (nameX x))) ∧ Below w.heap.size w w' := by
  have hc := card_code x w hx
  by_cases h : 0 ≤ x ∧ x ≤ 119
  · rw [show tblX x = tblC x.toNat from if_pos h, show isN x = true from decide_eq_true h, if_pos rfl, errV_nil] at hc
    rw [show nameX x = nameN x.toNat from if_pos h]
    obtain ⟨n, rfl⟩ : ∃ n : Nat, x = (n : Int) := ⟨x.toNat, by omega⟩
    rw [Int.toNat_natCast] at hc ⊢
    have hn : n < 120 := by omega
    clear h hx
    go_enter Tryd.func12, Tryd.ntmps12
    go_wp2_with fail
    refine hc.mono ?_
    rintro e w1 ⟨d, cs, rfl, hr, hb1⟩
    clear hc
    have hsx := cq_info hr
    have hcs := cq_size hr
    have h1 := cq_one hr
    have hnew : (w1.alloc (.cells zeroD 27)).heap[w1.heap.size]? = some (.cells zeroD 27 (0, 0)) := heap_alloc_new _ _
    go_upto_region 2 with (refine wpList_store_row rfl 27 (.tmp 3) (.tmp 8) rfl w1.heap.size _ rfl rfl 27 zeroD hnew hsx (by rw [hcs]; rfl) h1 ?_)
    obtain ⟨w2, hw2, hC2, hb2⟩ := cd_box w1 (xs := cs)
    rw [← hw2]
    clear hw2 hnew hsx hcs h1
    have hbw2 := keepB hb2 hb1
    obtain ⟨_, _, _, _, _, _, A, cc, hcs, _⟩ := hr
    have c0 : w2.cell? ⟨w1.heap.size, 0, none⟩ = some (.int .i64 (tblC n).kind) := by rw [hC2.cell, hcs]; exact cd_kind
    obtain ⟨kd, hkd⟩ : ∃ k, k = (tblC n).kind := ⟨_, rfl⟩
    rw [← hkd] at c0
    have HN := Lib.hid (show nameN n = wordN n kd ++ [45] ++ figN n by rw [hkd]; rfl)
    have hwl : (wordN n kd).length ≤ 6 := by
      unfold wordN wordK
      repeat' split
      all_goals decide
    clear hkd hcs hC2
    go_wp2_with fail
    refine (word_any n kd w2 hn).mono ?_
    rintro e w3 ⟨rfl, hw3⟩
    subst hw3
    obtain ⟨s1, hs1⟩ : ∃ s, s = strOfNums (wordN n kd) := ⟨_, rfl⟩
    rw [← hs1]
    have hz1 : s1.size ≤ 6 := by rw [hs1, strOfNums_size]; exact hwl
    have HS1 := Lib.hid hs1
    clear hs1 c0 hwl
    have hcat : ¬ 9223372036854775807 < s1.size + 1 := by omega
    go_wp2_with fail
    refine (itoa_any T n (by omega) _ (keepB hbw2 hz)).mono ?_
    rintro e w4 ⟨rfl, hb4⟩
    obtain ⟨s2, hs2⟩ : ∃ s, s = strOfNums (figN n) := ⟨_, rfl⟩
    rw [← hs2]
    have hz2 : s2.size ≤ 3 := by rw [hs2, strOfNums_size]; exact figN_len
    have HS2 := Lib.hid hs2
    clear hs2
    have hcat2 : ¬ 9223372036854775807 < (s1 ++ (⟨#[45]⟩ : ByteArray)).size + s2.size := by rw [ByteArray.size_append]; show ¬ _ < s1.size + 1 + s2.size; omega
    go_wp2_with fail
    go_ret
    exact ⟨by rw [HN.out, HS1.out, HS2.out, ← str_append, ← str_append]; rfl, keepB hb4 hbw2⟩
  · rw [show tblX x = zeroT from if_neg h, show isN x = false from decide_eq_false h, if_neg (by decide), errV_err (by decide)] at hc
    rw [show nameX x = [] from if_neg h]
    clear h hx
    go_enter Tryd.func12, Tryd.ntmps12
    go_wp2_with fail
    refine hc.mono ?_
    rintro e w1 ⟨d, cs, rfl, hr, hb1⟩
    clear hc
    have hsx := cq_info hr
    have hcs := cq_size hr
    have h1 := cq_one hr
    have hnew : (w1.alloc (.cells zeroD 27)).heap[w1.heap.size]? = some (.cells zeroD 27 (0, 0)) := heap_alloc_new _ _
    go_upto_region 2 with (refine wpList_store_row rfl 27 (.tmp 3) (.tmp 8) rfl w1.heap.size _ rfl rfl 27 zeroD hnew hsx (by rw [hcs]; rfl) h1 ?_)
    obtain ⟨w2, hw2, hC2, hb2⟩ := cd_box w1 (xs := cs)
    rw [← hw2]
    clear hw2 hnew hsx hcs h1
    go_wp2_with fail
    go_ret
    exact ⟨rfl, keepB hb2 hb1⟩
theorem tbl_said {z : World} (T : TabT z) : TblSaid z := ⟨fun x w hx _ => card_code x w hx, fun x w hx hz => name_code T x w hx hz⟩
end Go.Proofs.YtmdfgkfimlmmnaaDoor
namespace Go.Proofs.YtmdfgkfimlmmnaaDoor
open Go.RowKit Ex Mx Wx Go.Maps
set_option maxRecDepth 100000
theorem lawI : Keyed Tryd.prog 3 := int_keyed Tryd.underlying3
theorem key_wf {x : Int} (h : In64 x) : (Lit.int .i64 x).wf = true := by
  obtain ⟨h1, h2⟩ := h
  simp only [Lit.wf, Bool.and_eq_true, decide_eq_true_eq]
  exact ⟨h1, h2⟩
abbrev Cnts (w : World) (b n : Nat) (D : DataW Unit) : Prop := w.ownsMap Tryd.prog 3 (plainElem Tryd.prog 3) b n D
/-- The map holds how often each number stands in the list. -/
structure CntD (D : DataW Unit) (l : List Int) : Prop where
  m : IsMap D
  at_ : ∀ x, In64 x → D.atKey (.int .i64 x) (.lit (.int .i64 0)) = .lit (.int .i64 ((cnt x l : Nat) : Int))
  has_ : ∀ x, In64 x → (has D (.int .i64 x) = true ↔ x ∈ l)
theorem CntD.nil : CntD (.map []) [] := ⟨⟨[], rfl⟩, fun x _ => rfl, fun x _ => by simp [has]⟩
theorem CntD.snoc {D : DataW Unit} {l : List Int} (h : CntD D l) {y : Int} (hy : In64 y) : CntD (D.put (.int .i64 y) (.lit (.int .i64 (((cnt y l : Nat) : Int) + 1)))) (l ++ [y]) := by
  refine ⟨h.m.put _ _, fun x hx => ?_, fun x hx => ?_⟩
  · by_cases e : x = y
    · subst e
      rw [atKey_put_same h.m (lawI.key (keyOf_int_mk Tryd.underlying3 (key_wf hx))), cnt_snoc, if_pos rfl]
      simp
    · rw [atKey_put_other (by simpa using e), h.at_ x hx, cnt_snoc, if_neg (by omega)]
  · by_cases e : x = y
    · subst e
      rw [has_put_same h.m (lawI.key (keyOf_int_mk Tryd.underlying3 (key_wf hx)))]
      simp
    · rw [has_put_other (by simpa using e), h.has_ x hx]
      simp [e]
theorem cnt_mem {x : Int} : ∀ {l : List Int}, 0 < cnt x l → x ∈ l
  | [], h => by simp [cnt] at h
  | y :: l, h => by
    by_cases e : y = x
    · simp [e]
    · simp only [cnt, if_neg e] at h
      exact List.mem_cons_of_mem _ (cnt_mem h)
theorem in_deck {x : Int} (h : 0 ≤ x ∧ x ≤ 111) : In64 x := ⟨by omega, by omega⟩
def Dc1 (w : World) (l : List Int) (i : Value) (wr : World) : Prop := ∃ (k : Nat) (D : DataW Unit), i = .int .i64 ((k : Nat) : Int) ∧ k ≤ l.length ∧ (∀ x ∈ l.take k, 0 ≤ x ∧ x ≤ 111) ∧ Cnts wr w.heap.size k D ∧ CntD D (l.take k) ∧ Below w.heap.size w wr
def Dc2 (w : World) (l : List Int) (r n : Nat) (D : DataW Unit) (wr : World) : Prop := ∃ (left : Lit → Bool) (c : Nat), wr.ranges Tryd.prog 3 (plainElem Tryd.prog 3) w.heap.size r n D left c ∧ (∀ x ∈ l, left (.int .i64 x) = true ∨ ¬ (5 ≤ x ∧ 4 < cnt x l)) ∧ Below w.heap.size w wr
set_option linter.unusedSimpArgs false in
set_option maxHeartbeats 1000000 in
theorem deck_code (z : World) : DeckSaid z := by
  intro A n c l w hN hnc hn hz
  have hln := hN.len
  obtain ⟨q, hq⟩ : ∃ q, q = deckL l := ⟨_, rfl⟩
  rw [← hq]
  have HN := Lib.hid hN
  clear hN hz
  by_cases h100 : 100 < n
  · have HQ := Lib.hid (show q = 19 from hq.trans (deck_many (by omega)))
    have d0 : decide ((100 : Int) < (n : Int)) = true := by simp; omega
    clear hq h100
    go_enter Tryd.func18, Tryd.ntmps18
    go_wp2_with fail
    go_ret
    exact ⟨by rw [HQ.out]; rfl, Below.refl _ _⟩
  have d0 : decide ((100 : Int) < (n : Int)) = false := by simp; omega
  have HL := Lib.hid (show ¬ 100 < l.length by omega)
  have HQ := Lib.hid hq
  have hn1 : n ≤ 100 := by omega
  have hmm := @run_makeMap Tryd.prog
  clear hq h100
  go_enter Tryd.func18, Tryd.ntmps18
  go_upto_region 5 with fail
  clear d0 hmm
  go_loopw [15] (fun i wr => Dc1 w l i wr) (fun i _ => l.length - (intOf i).toNat)
  case atStart => exact ⟨0, .map [], rfl, by omega, fun x hx => by simp at hx, World.ownsMap_made _ _ _ _, by simpa using CntD.nil, (Below.refl _ _).alloc (Nat.le_refl _) _⟩
  case round =>
    obtain ⟨k, D, rfl, hk, hall, hown, hcd, hB⟩ := hrel
    have HAll := Lib.hid hall
    have HC := Lib.hid hcd
    have HB := Lib.hid hB
    have hbs := hB.size
    clear hall hcd hB
    by_cases hlt : k < l.length
    · obtain ⟨a, rfl, hab, hc0⟩ := (HN.out.below HB.out).at_ hlt
      have hd : decide ((k : Int) < (n : Int)) = true := by simp; omega
      have g0 : (0 : Int) ≤ (k : Int) := by omega
      have g1 : (k : Int) < (n : Int) := by omega
      obtain ⟨x, hx⟩ : ∃ x, x = l[k] := ⟨_, rfl⟩
      rw [← hx] at hc0
      have HT := Lib.hid (show l.take (k + 1) = l.take k ++ [x] by rw [List.take_add_one, List.getElem?_eq_getElem hlt, hx]; rfl)
      clear hx
      by_cases hin : 0 ≤ x ∧ x ≤ 111
      · have HA2 := Lib.hid (show ∀ y ∈ l.take (k + 1), 0 ≤ y ∧ y ≤ 111 by
          rw [HT.out]
          intro y hy
          rcases List.mem_append.1 hy with hy | hy
          · exact HAll.out y hy
          · simp at hy; subst hy; exact hin)
        have hxi : In64 x := ⟨by omega, by omega⟩
        have b0 : decide (x < 0) = false := by simp; omega
        have b1 : decide ((112 : Int) ≤ x) = false := by simp; omega
        have hcx := cnt_len x (l.take k)
        rw [List.length_take] at hcx
        have hat := HC.out.at_ x hxi
        have hnx := HC.out.snoc hxi
        obtain ⟨m, hm⟩ : ∃ m, m = cnt x (l.take k) := ⟨_, rfl⟩
        rw [← hm] at hat hnx hcx
        have HNx := Lib.hid hnx
        have HAt := Lib.hid hat
        clear hm hnx hat hin
        have hm1 : m ≤ 100 := by omega
        go_wp2_with (first
          | (at_lookup; refine wpList_lookup_own_int _ rfl _ _ 75 rfl 3 3 .i64 lawI Tryd.underlying75 Tryd.underlying3 (by kernel_rfl) w.heap.size k D rfl hown _ _ rfl (keyOf_int_mk Tryd.underlying3 (key_wf hxi)) ?_; intro c2 hat2 hwc; rw [HAt.out] at hat2; injection hat2 with hat2; injection hat2 with _ hat2; subst hat2)
          | (at_mapUpdate; refine wpList_mapUpdate_own _ rfl _ _ _ 75 rfl 3 3 lawI Tryd.underlying75 _ w.heap.size k D rfl hown (by unfold maxLen; omega) _ _ (.int .i64 x) rfl rfl (keyOf_int_mk Tryd.underlying3 (key_wf hxi)) _ [] (plainElem_int Tryd.underlying3 (key_wf ⟨by omega, by omega⟩)) ?_; intro w1 hown1 hgrow1))
        go_roundw
        case rel => exact ⟨k + 1, _, by go_num, by omega, HA2.out, hown1, by rw [HT.out]; exact HNx.out, HB.out.grown hgrow1 hbs (fun g e => by cases e; exact Nat.le_refl _)⟩
        case measure => simp [intOf]; omega
      · have HF := Lib.hid (show q = 4 from HQ.out.trans (deck_none HL.out (List.mem_of_mem_take (i := k + 1) (by rw [HT.out]; simp)) (x := x) (by omega)))
        by_cases hx0 : x < 0
        · have b0 : decide (x < 0) = true := decide_eq_true hx0
          clear hin hx0
          go_wp2_with fail
          go_ret
          exact ⟨by rw [HF.out]; rfl, HB.out⟩
        · have b0 : decide (x < 0) = false := decide_eq_false hx0
          have b1 : decide ((112 : Int) ≤ x) = true := decide_eq_true (by omega)
          clear hin hx0
          go_wp2_with fail
          go_ret
          exact ⟨by rw [HF.out]; rfl, HB.out⟩
    · obtain rfl : k = l.length := by omega
      subst hln
      have hd : decide ((l.length : Int) < (l.length : Int)) = false := by simp
      have HA1 := Lib.hid (show ∀ x ∈ l, 0 ≤ x ∧ x ≤ 111 by have := HAll.out; rw [List.take_length] at this; exact this)
      have HC1 := Lib.hid (show CntD D l by have := HC.out; rw [List.take_length] at this; exact this)
      clear HAll HC
      go_wp2_with (at_range; refine wpList_range_own _ rfl _ 75 rfl 3 3 lawI Tryd.underlying75 _ w.heap.size l.length D rfl hown ?_; intro w0 hrg0 hg0 hs0)
      have hbg : Below wr.heap.size wr w0 := ⟨hg0.os, hg0.tape, hg0.output, hg0.size, fun j hj => hg0.block j hj (by simp)⟩
      have HB0 := Lib.hid (keepB hbg HB.out)
      clear hd hbg hg0 hs0
      go_frame
      obtain ⟨r, hr⟩ : ∃ r, r = wr.heap.size := ⟨_, rfl⟩
      rw [← hr] at hrg0 ⊢
      have hrs : w.heap.size ≤ r := by rw [hr]; exact hbs
      clear hr
      go_loopw [6] (fun _ wx => Dc2 w l r l.length D wx) (fun _ wx => wx.rangeLeft w.heap.size r)
      case atStart => exact ⟨_, _, hrg0, fun x hx => .inl ((HC1.out.has_ x (in_deck (HA1.out x hx))).2 hx), HB0.out⟩
      case round =>
        obtain ⟨left, cn, hrg, hall, hB⟩ := hrel
        have HAll := Lib.hid hall
        have HB2 := Lib.hid hB
        clear hall hB
        go_wp2_with (at_next; refine wpList_next_ranges_ii _ rfl _ rfl 3 3 .i64 .i64 lawI Tryd.underlying3 Tryd.underlying3 w.heap.size r l.length _ _ _ rfl hrg ?_ ?_)
        · intro _ hl0
          have HF := Lib.hid (show q = 0 from HQ.out.trans (deck_fine HL.out HA1.out (fun x hx => (HAll.out x hx).resolve_left (by rw [hl0]; decide))))
          go_wp2_with fail
          go_ret
          exact ⟨by rw [HF.out]; rfl, HB2.out⟩
        · intro x c2 w1 cnt1 hwx hwc hlx hat hrg1 hlt hg1 hs1 hen
          have hxi : In64 x := by have h := hwx; simp only [Lit.wf, Bool.and_eq_true, decide_eq_true_eq] at h; exact h
          have hc2 : c2 = ((cnt x l : Nat) : Int) := by
            have h1 := hat (.lit (.int .i64 0))
            rw [HC1.out.at_ x hxi] at h1
            injection h1 with h1
            injection h1 with _ h1
            exact h1.symm
          have HC2 := Lib.hid hc2
          have HB3 := Lib.hid (HB2.out.grown hg1 (by have := HB2.out.size; omega) (fun g e => by cases e; exact hrs))
          clear hat hc2 hg1 hs1
          by_cases hbad : 5 ≤ x ∧ 4 < c2
          · have HF := Lib.hid (show q = 8 from HQ.out.trans (deck_twice HL.out HA1.out (cnt_mem (x := x) (by have := HC2.out; omega)) ⟨hbad.1, by have := HC2.out; omega⟩))
            have b0 : decide (5 ≤ x) = true := decide_eq_true hbad.1
            have b1 : decide (4 < c2) = true := decide_eq_true hbad.2
            clear hbad
            go_wp2_with fail
            go_ret
            exact ⟨by rw [HF.out]; rfl, HB3.out⟩
          · have HNx := Lib.hid (show ∀ y ∈ l, (left (.int .i64 y) && !(Lit.int .i64 y).sameKey (.int .i64 x)) = true ∨ ¬ (5 ≤ y ∧ 4 < cnt y l) from fun y hy => by
              by_cases e : y = x
              · subst e
                exact .inr (by have := HC2.out; omega)
              · rcases HAll.out y hy with h | h
                · exact .inl (by simp [h, Lit.sameKey, e])
                · exact .inr h)
            by_cases h5 : 5 ≤ x
            · have b0 : decide (5 ≤ x) = true := decide_eq_true h5
              have b1 : decide (4 < c2) = false := decide_eq_false (fun h => hbad ⟨h5, h⟩)
              clear hbad h5
              go_wp2_with fail
              go_roundw
              case rel => exact ⟨_, cnt1, hrg1, HNx.out, HB3.out⟩
              case measure => rw [hrg1.left_eq, hrg.left_eq]; exact hlt
            · have b0 : decide (5 ≤ x) = false := decide_eq_false h5
              clear hbad h5
              go_wp2_with fail
              go_roundw
              case rel => exact ⟨_, cnt1, hrg1, HNx.out, HB3.out⟩
              case measure => rw [hrg1.left_eq, hrg.left_eq]; exact hlt
end Go.Proofs.YtmdfgkfimlmmnaaDoor
namespace Go.Proofs.YtmdfgkfimlmmnaaDoor
open Go.RowKit Ex Mx Wx
set_option maxRecDepth 100000
/-- What the library's variables hold that Number's calls read. -/
structure LibT (z : World) : Prop where
  t : TabT z
  m : ∃ m, z.cell? ⟨0, 0, none⟩ = some (.int .i64 m)
  e1 : ∃ ev, z.cell? ⟨1, 0, none⟩ = some ev ∧ (ev = .nilIface ∨ ∃ te pe, ev = .iface te pe)
  e2 : ∃ ev, z.cell? ⟨2, 0, none⟩ = some ev ∧ (ev = .nilIface ∨ ∃ te pe, ev = .iface te pe)
theorem cell_keep {z w : World} {a : Addr} {v : Value} (hb : Below z.heap.size z w) (h : z.cell? a = some v) : w.cell? a = some v := (hb.cell (World.block_lt_of_cell? _ _ h)).trans h
namespace Ex
def figsOf (l : List UInt8) : List UInt8 := (Lib.cut l [45]).2.1
def okAt (l : List UInt8) (n : Nat) : Bool := match Lib.atoiAll (figsOf l) with
  | .ok v => v == (n : Int)
  | _ => false
theorem names_ok : ∀ n < 120, okAt (strOfNums (nameN n)).data.toList n = true := by decide +kernel
end Ex
theorem figs_len (l : List UInt8) : (figsOf l).length ≤ l.length := by
  unfold figsOf Lib.cut
  split
  · simp only [List.length_drop]; omega
  · simp
theorem atoi_of_name {s : ByteArray} {n : Nat} (hn : n < 120) (h : strOfNums (nameN n) = s) : Lib.atoiAll (figsOf s.data.toList) = .ok (n : Int) := by
  have h1 := names_ok n hn
  rw [h] at h1
  unfold okAt at h1
  split at h1
  · rename_i v hv
    rw [hv]
    simp at h1
    rw [h1]
  · simp at h1
theorem no_empty (v : Int) : Lib.atoiAll (figsOf (strOfNums []).data.toList) ≠ .ok v := by
  intro h
  have h2 : (match Lib.atoiAll (figsOf (strOfNums []).data.toList) with | .ok _ => true | _ => false) = false := by decide +kernel
  rw [h] at h2
  cases h2
theorem atoi_in {l : List UInt8} {v : Int} (h : Lib.atoiAll l = .ok v) : In64 v := by
  unfold Lib.atoiAll at h
  split at h
  · cases h
  · dsimp only at h
    split at h
    · cases h
    · cases h
    · rename_i u _
      split at h
      · cases h
      · split at h
        · cases h
        · injection h with h
          subst h
          split <;> constructor <;> omega
theorem atoi_any {z : World} (T : LibT z) (fig : ByteArray) (hs : fig.size ≤ 100) (w : World) (hz : Below z.heap.size z w) : Calls Tryd.prog 38 #[.string fig] w fun e w' => Below w.heap.size w w' ∧
    ((∃ v, Lib.atoiAll fig.data.toList = .ok v ∧ e = .returned (.tuple #[.int .i64 v, .nilIface])) ∨ (∃ k t p, (∀ v, Lib.atoiAll fig.data.toList ≠ .ok v) ∧ e = .returned (.tuple #[.int .i64 k, .iface t p]))) := by
  obtain ⟨v1, hv1, hk1⟩ := T.e1
  obtain ⟨v2, hv2, hk2⟩ := T.e2
  cases h : Lib.atoiAll fig.data.toList
  · refine (Tryd.strconv_Atoi_ok fig (by omega) _ h w).mono ?_
    rintro e w' ⟨rfl, hw⟩
    refine ⟨?_, .inl ⟨_, rfl, rfl⟩⟩
    rcases hw with rfl | ⟨t, rfl⟩
    · exact Below.refl _ _
    · exact Lib.bytesWorld_below _ _ _
  · refine (Any.strconv_Atoi_syntax Tryd.laysC172 fig (by omega) h v1 w (cell_keep hz hv1) hk1).mono ?_
    rintro e w' ⟨N, rfl, _, _, hb⟩
    exact ⟨hb, .inr ⟨_, _, _, fun v => by simp, rfl⟩⟩
  · refine (Tryd.strconv_Atoi_range fig (by omega) h v2 w (cell_keep hz hv2) hk2).mono ?_
    rintro e w' ⟨N, rfl, _, _, hb⟩
    exact ⟨hb, .inr ⟨_, _, _, fun v => by simp, rfl⟩⟩
theorem number_code {z : World} (T : LibT z) : NumberSaid z := by
  intro s w hs hz
  obtain ⟨m, hm⟩ := T.m
  obtain ⟨v1, hv1, hk1⟩ := T.e1
  obtain ⟨v2, hv2, hk2⟩ := T.e2
  have hcut := Tryd.strings_Cut s ⟨#[45]⟩ m w (by omega) (cell_keep hz hm)
  obtain ⟨fig, hfig⟩ : ∃ f : ByteArray, f = ⟨(figsOf s.data.toList).toArray⟩ := ⟨_, rfl⟩
  rw [show (⟨(Lib.cut s.data.toList (ByteArray.mk #[45]).data.toList).2.1.toArray⟩ : ByteArray) = fig from hfig.symm] at hcut
  have hfl : fig.data.toList = figsOf s.data.toList := by rw [hfig]
  have hfs : fig.size ≤ 100 := by
    have h1 : fig.size = (figsOf s.data.toList).length := by rw [hfig]; rfl
    have h2 := figs_len s.data.toList
    have h3 : s.data.toList.length = s.size := rfl
    omega
  have HF := Lib.hid hfl
  have hato := atoi_any T fig hfs
  have HA := Lib.hid hato
  clear hm hfig hfl hato
  go_enter Tryd.func16, Tryd.ntmps16
  go_wp2_with fail
  refine hcut.mono ?_
  rintro e w1 ⟨rfl, n1, rfl⟩
  clear hcut
  have hb1 : Below w.heap.size w (w.drewN n1) := below_drewN (Below.refl _ _) _
  generalize w.drewN n1 = w1 at hb1 ⊢
  go_wp2_with fail
  refine (HA.out w1 (keepB hb1 hz)).mono ?_
  rintro e w2 ⟨hb2, (⟨v, hv, rfl⟩ | ⟨k, t, p, hno, rfl⟩)⟩
  · have hvi := atoi_in hv
    have hn := name_code T.t v w2 hvi (keepB hb2 (keepB hb1 hz))
    rw [HF.out] at hv
    have HV := Lib.hid hv
    clear hv
    obtain ⟨nm, hnm⟩ : ∃ nm, nm = strOfNums (nameX v) := ⟨_, rfl⟩
    rw [← hnm] at hn
    go_wp2_with fail
    refine hn.mono ?_
    rintro e w3 ⟨rfl, hb3⟩
    clear hn
    have hbw := keepB hb3 (keepB hb2 hb1)
    by_cases hs : nm = s
    · have hr : NumR s v true := by
        refine .inl ⟨rfl, ?_⟩
        by_cases h : 0 ≤ v ∧ v ≤ 119
        · exact ⟨v.toNat, by omega, by omega, by rw [← hs, hnm]; unfold nameX; rw [if_pos h]⟩
        · exfalso
          rw [hnm, show nameX v = [] from if_neg h] at hs
          have h2 := HV.out
          rw [← hs] at h2
          exact no_empty v h2
      have e1 : (nm.toList == s.toList) = true := (str_eq_iff nm s).2 hs
      clear hs hnm
      go_wp2_with fail
      exact bodyPost_ret (results_tmp2 rfl _ _ _) rfl ⟨v, true, hr, rfl, hbw⟩
    · have hr : NumR s 0 false := by
        refine .inr ⟨rfl, rfl, fun n hn h => hs ?_⟩
        have h2 := atoi_of_name hn h
        rw [HV.out] at h2
        injection h2 with h2
        rw [hnm, h2, ← h]
        unfold nameX
        rw [if_pos (by omega), Int.toNat_natCast]
      have e1 : (nm.toList == s.toList) = false := str_ne hs
      clear hs hnm
      go_wp2_with fail
      exact bodyPost_ret (results_tmp2 rfl _ _ _) rfl ⟨0, false, hr, rfl, hbw⟩
  · have hr : NumR s 0 false := .inr ⟨rfl, rfl, fun n hn h => hno _ (by rw [HF.out]; exact atoi_of_name hn h)⟩
    have hbw := keepB hb2 hb1
    clear hno
    go_wp2_with fail
    exact bodyPost_ret (results_tmp2 rfl _ _ _) rfl ⟨0, false, hr, rfl, hbw⟩
end Go.Proofs.YtmdfgkfimlmmnaaDoor
namespace Go.Proofs.YtmdfgkfimlmmnaaDoor
open Go.RowKit Ex Mx
theorem laid_iface {P : Program} {w : World} {name nm : String} {d : DataW Unit} {g : Nat} {t : TypeId} {ms : Array (String × TypeId)} (hi : P.underlying t = some (.interface ms)) : ∀ {l : List (String × DataW Unit)} {ps : List MemPlace}, DataW.LaidVars P w l ps →
    (∀ b off, MemPlace.cell b off ∈ ps → ∃ c t, w.heap[b]? = some (.cells c t (0, 0))) → (name, .iface nm d) ∈ l → P.globalNamed name = some g → (P.globals[g]?).map (·.type) = some t →
    ∃ u v, w.cell? ⟨g, 0, none⟩ = some (.iface u v)
  | [], _, _, _, hm, _, _ => by cases hm
  | (n, d') :: r, ps, hl, hrow, hm, hg, ht => by
    obtain ⟨g', t', cs, fuel, p, q, e1, e2, e3, e4, hr, rfl⟩ := hl
    rcases List.mem_cons.1 hm with hm | hm
    · simp only [Prod.mk.injEq] at hm
      obtain ⟨rfl, rfl⟩ := hm
      obtain rfl : g = g' := Option.some.inj (hg.symm.trans e1)
      obtain rfl : t = t' := Option.some.inj (ht.symm.trans e2)
      obtain ⟨_, u, v, hcs, _⟩ := iface_of_trod hi e4
      have hsz : cs = #[.iface u v] := Array.toList_inj.1 hcs
      obtain ⟨c, u', hc⟩ := hrow g 0 (by simp only [List.mem_append]; left; left; unfold MemPlace.row; exact List.mem_map.2 ⟨0, by rw [hsz]; simp, rfl⟩)
      simp only [World.var?, hg, Option.bind_some, hc, Option.some.injEq] at e3
      exact ⟨u, v, by rw [cell_of_row w g 0 _ _ _ hc, e3, hsz]; rfl⟩
    · exact laid_iface hi hr (fun b off h => hrow b off (by simp only [List.mem_append]; right; exact h)) hm hg ht
theorem int_of_shape {P : Program} {w : World} {g : Nat} {t : TypeId} {zero : Array Value} {k : IntKind} (h : w.ShapedOpen P) (hg : g < P.globals.size)
    (h0 : ((begin P (fun _ _ => 0) default).world.heap[g]?).bind Obj.row? = some (zero, t)) (hz : zero.size = 1)
    (hb : P.buildable t = true) (hc : P.cellTypes P.depth t = some [t]) (hu : P.underlying t = some (.int k)) : ∃ m, w.cell? ⟨g, 0, none⟩ = some (.int k m) := by
  obtain ⟨cs, hh, hs, hr⟩ := h.1 g zero t hg h0
  obtain ⟨ts, hts, _, hall⟩ := hr hb
  rw [hc] at hts
  cases hts
  have h1 : 0 < cs.size := by omega
  obtain ⟨u, hu', hok⟩ := hall 0 cs[0] (by simp [h1])
  have : u = t := by simpa using hu'.symm
  subst this
  have hcell : w.cell? ⟨g, 0, none⟩ = some cs[0] := by simp [World.cell?, hh, h1]
  rw [hcell]
  unfold Cell.ok at hok
  rw [hu] at hok
  cases hv : cs[0] <;> rw [hv] at hok <;> first | (simp at hok; obtain ⟨rfl, _⟩ := hok; exact ⟨_, rfl⟩) | simp at hok
theorem tab_cards {W : World} (h : laidMetH Tryd.prog Rows.tableCardsRow.laid W) : TabT W := laid_cells h 8 2 3 (by kernel_rfl) pow10_ne
theorem tab_all {W : World} (h : laidMetH Tryd.prog Rows.tableAllRow.laid W) : TabT W := laid_cells h 8 2 3 (by kernel_rfl) pow10_ne
theorem tab_decks {W : World} (h : laidMetH Tryd.prog Rows.tableDecksRow.laid W) : TabT W := laid_cells h 8 2 3 (by kernel_rfl) pow10_ne
theorem tab_names {W : World} (h : laidMetH Tryd.prog Rows.tableNamesRow.laid W) : TabT W := laid_cells h 8 2 3 (by kernel_rfl) pow10_ne
theorem lib_names {W : World} (h : laidMetH Tryd.prog Rows.tableNamesRow.laid W) (hs : W.ShapedOpen Tryd.prog) : LibT W := by
  obtain ⟨ps, hl, _, hrows⟩ := (laidMetH_iff.1 h).1
  refine ⟨tab_names h, int_of_shape hs (of_decide_eq_true (by kernel_rfl)) (zero := #[.int .i64 0]) (t := 3) (by kernel_rfl) rfl (by kernel_rfl) (by kernel_rfl) Tryd.underlying3, ?_, ?_⟩
  · obtain ⟨u, v, hc⟩ := laid_iface (name := "strconv.ErrSyntax") (g := 1) Tryd.underlying29 hl (fun b off hp => (hrows b off hp).1) (List.mem_of_getElem? (i := 4) rfl) (by kernel_rfl) (by kernel_rfl)
    exact ⟨_, hc, .inr ⟨u, v, rfl⟩⟩
  · obtain ⟨u, v, hc⟩ := laid_iface (name := "strconv.ErrRange") (g := 2) Tryd.underlying29 hl (fun b off hp => (hrows b off hp).1) (List.mem_of_getElem? (i := 3) rfl) (by kernel_rfl) (by kernel_rfl)
    exact ⟨_, hc, .inr ⟨u, v, rfl⟩⟩
end Go.Proofs.YtmdfgkfimlmmnaaDoor
