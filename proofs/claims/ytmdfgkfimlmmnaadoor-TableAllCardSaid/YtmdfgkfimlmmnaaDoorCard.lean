/- Layer 7: abilities and cards, and how they read in memory. -/
import Derived.Test.YtmdfgkfimlmmnaaDoorTreeBase
import Derived.Test.YtmdfgkfimlmmnaaDoorManaA
namespace Go.Proofs.YtmdfgkfimlmmnaaDoor
open Go.RowKit Ex Mx
namespace Ex
/-- An ability. -/
structure AbT where
  when_ : Int
  cost : Nat → Int
  tap : Bool
  target : Int
  do_ : ET
/-- A card. -/
structure CardT where
  kind : Int
  colour : Int
  fast : Bool
  cost : Nat → Int
  power : Int
  tough : Int
  says : Int
  abs : List AbT
end Ex
/-- An ability's fourteen cells; xs: its effect's. -/
def abC (a : AbT) (xs : Array Value) : Array Value := #[.int .i64 a.when_] ++ arr .i64 6 a.cost ++ #[.bool a.tap, .int .i64 a.target] ++ xs
/-- A card's thirteen cells. -/
def cardC (c : CardT) (A : Option Addr) (k cc : Nat) : Array Value := #[.int .i64 c.kind, .int .i64 c.colour, .bool c.fast] ++ arr .i64 6 c.cost ++ #[.int .i64 c.power, .int .i64 c.tough, .int .i64 c.says, .slice A k cc]
/-- Fourteen cells read as an ability. -/
def ReadsA (B : Nat) (w : World) (d : Nat) (cs : Array Value) (a : AbT) : Prop := In64 a.when_ ∧ Wide a.cost ∧ In64 a.target ∧ ∃ xs, cs = abC a xs ∧ Reads B w d xs a.do_
/-- A list of abilities. -/
def RdA (B : Nat) (w : World) (d : Nat) (A : Option Addr) (l : List AbT) : Prop := ∀ i a, l[i]? = some a → ∃ b o ys, A = some ⟨b, o, none⟩ ∧ b < B ∧ w.rangeAt b (o + i * 14) ys.toList ∧ ReadsA B w d ys a
/-- Thirteen cells read as a card. -/
def ReadsC (B : Nat) (w : World) (d : Nat) (cs : Array Value) (c : CardT) : Prop := In64 c.kind ∧ In64 c.colour ∧ Wide c.cost ∧ In64 c.power ∧ In64 c.tough ∧ In64 c.says ∧
  ∃ A cc, cs = cardC c A c.abs.length cc ∧ c.abs.length ≤ cc ∧ cc ≤ maxLen ∧ RdA B w d A c.abs
theorem arr6 (f : Nat → Int) : arr .i64 6 f = #[.int .i64 (f 0), .int .i64 (f 1), .int .i64 (f 2), .int .i64 (f 3), .int .i64 (f 4), .int .i64 (f 5)] := by
  have h := arr_list .i64 [f 0, f 1, f 2, f 3, f 4, f 5]
  rw [← show arr .i64 6 (fun i => [f 0, f 1, f 2, f 3, f 4, f 5].getD i 0) = arr .i64 6 f from arr_congr (all6 rfl rfl rfl rfl rfl rfl)]
  exact h
section
variable {B B' d : Nat} {w w' : World} {cs : Array Value}
theorem ReadsA.keep {a : AbT} (hb : Below B w w') (h : ReadsA B w d cs a) : ReadsA B w' d cs a := by
  obtain ⟨h1, h2, h3, xs, e, hr⟩ := h
  exact ⟨h1, h2, h3, xs, e, hr.keep hb⟩
theorem ReadsA.more {a : AbT} (hB : B ≤ B') (h : ReadsA B w d cs a) : ReadsA B' w d cs a := by
  obtain ⟨h1, h2, h3, xs, e, hr⟩ := h
  exact ⟨h1, h2, h3, xs, e, hr.more hB⟩
theorem ReadsA.grow {a : AbT} (h : ReadsA w.heap.size w d cs a) (hb : Below w.heap.size w w') : ReadsA w'.heap.size w' d cs a := (h.keep hb).more hb.size
theorem RdA.keep {A : Option Addr} {l : List AbT} (hb : Below B w w') (h : RdA B w d A l) : RdA B w' d A l := fun i a hi => by
  obtain ⟨b, o, ys, h1, h2, h3, h4⟩ := h i a hi
  exact ⟨b, o, ys, h1, h2, rangeAt_below hb h2 h3, h4.keep hb⟩
theorem RdA.more {A : Option Addr} {l : List AbT} (hB : B ≤ B') (h : RdA B w d A l) : RdA B' w d A l := fun i a hi => by
  obtain ⟨b, o, ys, h1, h2, h3, h4⟩ := h i a hi
  exact ⟨b, o, ys, h1, by omega, h3, h4.more hB⟩
theorem RdA.grow {A : Option Addr} {l : List AbT} (h : RdA w.heap.size w d A l) (hb : Below w.heap.size w w') : RdA w'.heap.size w' d A l := (h.keep hb).more hb.size
theorem ReadsC.grow {c : CardT} (h : ReadsC w.heap.size w d cs c) (hb : Below w.heap.size w w') : ReadsC w'.heap.size w' d cs c := by
  obtain ⟨h1, h2, h3, h4, h5, h6, A, cc, e, hl, hc, hx⟩ := h
  exact ⟨h1, h2, h3, h4, h5, h6, A, cc, e, hl, hc, hx.grow hb⟩
theorem ReadsA.size {a : AbT} (h : ReadsA B w d cs a) : cs.size = 14 := by
  obtain ⟨_, _, _, xs, rfl, hr⟩ := h
  have := hr.size
  simp [abC, arr_size, this]
theorem ReadsC.size {c : CardT} (h : ReadsC B w d cs c) : cs.size = 13 := by
  obtain ⟨_, _, _, _, _, _, A, cc, rfl, _⟩ := h
  simp [cardC, arr_size]
theorem ReadsA.one {a : AbT} (h : ReadsA B w d cs a) : cs.all (·.oneCell') = true := by
  obtain ⟨_, _, _, xs, rfl, hr⟩ := h
  have h1 := hr.one
  have h2 := arr_one .i64 6 a.cost
  simp only [abC, Array.all_append, h1, h2]; simp [Value.oneCell']
theorem ReadsC.one {c : CardT} (h : ReadsC B w d cs c) : cs.all (·.oneCell') = true := by
  obtain ⟨_, _, _, _, _, _, A, cc, rfl, _⟩ := h
  have h2 := arr_one .i64 6 c.cost
  simp only [cardC, Array.all_append, h2]; simp [Value.oneCell']
end
theorem size14 : (Tryd.prog.info? 48).map (·.size) = some 14 := by kernel_rfl
theorem size13 : (Tryd.prog.info? 27).map (·.size) = some 13 := by kernel_rfl
/-- Block g is a card's box; an ability's. -/
def CdAt (w : World) (g : Nat) (cs : Array Value) : Prop := w.heap[g]? = some (.cells cs 27 (0, 0))
def AbAt (w : World) (g : Nat) (cs : Array Value) : Prop := w.heap[g]? = some (.cells cs 48 (0, 0))
section
variable {w w' : World} {g : Nat} {cs : Array Value}
theorem CdAt.new (w : World) (cs : Array Value) : CdAt (w.alloc (.cells cs 27)) w.heap.size cs := heap_alloc_new _ _
theorem CdAt.lt (h : CdAt w g cs) : g < w.heap.size := (Array.getElem?_eq_some_iff.1 h).1
theorem CdAt.keep (h : CdAt w g cs) (hb : Below w.heap.size w w') : CdAt w' g cs := (hb.block g h.lt).trans h
theorem CdAt.cell (h : CdAt w g cs) (i : Nat) : w.cell? ⟨g, i, none⟩ = cs[i]? := cell_of_row w g i cs 27 (0, 0) h
theorem AbAt.new (w : World) (cs : Array Value) : AbAt (w.alloc (.cells cs 48)) w.heap.size cs := heap_alloc_new _ _
theorem AbAt.lt (h : AbAt w g cs) : g < w.heap.size := (Array.getElem?_eq_some_iff.1 h).1
theorem AbAt.keep (h : AbAt w g cs) (hb : Below w.heap.size w w') : AbAt w' g cs := (hb.block g h.lt).trans h
theorem AbAt.cell (h : AbAt w g cs) (i : Nat) : w.cell? ⟨g, i, none⟩ = cs[i]? := cell_of_row w g i cs 48 (0, 0) h
theorem AbAt.range (h : AbAt w g cs) : w.rangeAt g 0 cs.toList := fun j v hv => by rw [Nat.zero_add, h.cell, ← Array.getElem?_toList]; exact hv
theorem CdAt.range (h : CdAt w g cs) : w.rangeAt g 0 cs.toList := fun j v hv => by rw [Nat.zero_add, h.cell, ← Array.getElem?_toList]; exact hv
end
abbrev zeroA : Array Value := #[.int .i64 0, .int .i64 0, .int .i64 0, .int .i64 0, .int .i64 0, .int .i64 0, .int .i64 0, .bool false, .int .i64 0, .int .i64 0, .int .i64 0, .int .i64 0, .int .i64 0, .slice none 0 0]
abbrev zeroD : Array Value := #[.int .i64 0, .int .i64 0, .bool false, .int .i64 0, .int .i64 0, .int .i64 0, .int .i64 0, .int .i64 0, .int .i64 0, .int .i64 0, .int .i64 0, .int .i64 0, .slice none 0 0]
/-- A new box with an ability in it. -/
theorem ab_box (wr : World) {xs : Array Value} : ∃ w3, w3 = (wr.alloc (.cells zeroA 48)).setRow wr.heap.size xs ∧ AbAt w3 wr.heap.size xs ∧ Below wr.heap.size wr w3 := by
  refine ⟨_, rfl, ?_, below_setRow ((Below.refl _ _).alloc (Nat.le_refl _) _) _ _ (Nat.le_refl _)⟩
  unfold AbAt
  exact setRow_heap _ _ _ _ _ _ (heap_alloc_new _ _)
theorem cd_box (wr : World) {xs : Array Value} : ∃ w3, w3 = (wr.alloc (.cells zeroD 27)).setRow wr.heap.size xs ∧ CdAt w3 wr.heap.size xs ∧ Below wr.heap.size wr w3 := by
  refine ⟨_, rfl, ?_, below_setRow ((Below.refl _ _).alloc (Nat.le_refl _) _) _ _ (Nat.le_refl _)⟩
  unfold CdAt
  exact setRow_heap _ _ _ _ _ _ (heap_alloc_new _ _)
/-- A range of cells within a range. -/
theorem range_sub {w : World} {b o : Nat} {xs ys zs : List Value} (h : w.rangeAt b o (xs ++ ys ++ zs)) : w.rangeAt b (o + xs.length) ys := fun j v hv => by
  have hj := (List.getElem?_eq_some_iff.1 hv).1
  have := h (xs.length + j) v (by rw [List.append_assoc, List.getElem?_append_right (by omega), List.getElem?_append_left (by omega), Nat.add_sub_cancel_left]; exact hv)
  rw [← Nat.add_assoc] at this
  exact this
/-- An ability's cells, one by one. -/
theorem ab_cost {w : World} {b o : Nat} {a : AbT} {xs : Array Value} (h : w.rangeAt b o (abC a xs).toList) : w.rangeAt b (o + 1) (arr .i64 6 a.cost).toList :=
  range_sub (xs := [.int .i64 a.when_]) (zs := [.bool a.tap, .int .i64 a.target] ++ xs.toList) (by simpa [abC] using h)
theorem ab_do {w : World} {b o : Nat} {a : AbT} {xs : Array Value} (h : w.rangeAt b o (abC a xs).toList) : w.rangeAt b (o + 9) xs.toList := by
  have h2 := range_sub (xs := .int .i64 a.when_ :: ((arr .i64 6 a.cost).toList ++ [.bool a.tap, .int .i64 a.target])) (ys := xs.toList) (zs := []) (w := w) (b := b) (o := o) (by simpa [abC] using h)
  simpa [arr_size] using h2
theorem abC9 (a : AbT) (xs : Array Value) : abC a xs = #[.int .i64 a.when_, .int .i64 (a.cost 0), .int .i64 (a.cost 1), .int .i64 (a.cost 2), .int .i64 (a.cost 3), .int .i64 (a.cost 4), .int .i64 (a.cost 5), .bool a.tap, .int .i64 a.target] ++ xs := by
  unfold abC; rw [arr6]; rfl
theorem ab_when {a : AbT} {xs : Array Value} : (abC a xs)[0]? = some (.int .i64 a.when_) := by rw [abC9, Array.getElem?_append_left (by simp)]; rfl
theorem ab_tap {a : AbT} {xs : Array Value} : (abC a xs)[7]? = some (.bool a.tap) := by rw [abC9, Array.getElem?_append_left (by simp)]; rfl
theorem ab_target {a : AbT} {xs : Array Value} : (abC a xs)[8]? = some (.int .i64 a.target) := by rw [abC9, Array.getElem?_append_left (by simp)]; rfl
theorem ab_op {a : AbT} {xs : Array Value} (i : Nat) : (abC a xs)[9 + i]? = xs[i]? := by rw [abC9, Array.getElem?_append_right (by simp)]; simp
theorem cd_kind {c : CardT} {A : Option Addr} {k cc : Nat} : (cardC c A k cc)[0]? = some (.int .i64 c.kind) := by simp [cardC, arr6]
theorem cd_colour {c : CardT} {A : Option Addr} {k cc : Nat} : (cardC c A k cc)[1]? = some (.int .i64 c.colour) := by simp [cardC, arr6]
theorem cd_fast {c : CardT} {A : Option Addr} {k cc : Nat} : (cardC c A k cc)[2]? = some (.bool c.fast) := by simp [cardC, arr6]
theorem cd_power {c : CardT} {A : Option Addr} {k cc : Nat} : (cardC c A k cc)[9]? = some (.int .i64 c.power) := by simp [cardC, arr6]
theorem cd_tough {c : CardT} {A : Option Addr} {k cc : Nat} : (cardC c A k cc)[10]? = some (.int .i64 c.tough) := by simp [cardC, arr6]
theorem cd_says {c : CardT} {A : Option Addr} {k cc : Nat} : (cardC c A k cc)[11]? = some (.int .i64 c.says) := by simp [cardC, arr6]
theorem cd_abs {c : CardT} {A : Option Addr} {k cc : Nat} : (cardC c A k cc)[12]? = some (.slice A k cc) := by simp [cardC, arr6]
theorem cd_cost {w : World} {b o : Nat} {c : CardT} {A : Option Addr} {k cc : Nat} (h : w.rangeAt b o (cardC c A k cc).toList) : w.rangeAt b (o + 3) (arr .i64 6 c.cost).toList :=
  range_sub (xs := [.int .i64 c.kind, .int .i64 c.colour, .bool c.fast]) (zs := [.int .i64 c.power, .int .i64 c.tough, .int .i64 c.says, .slice A k cc]) (by simpa [cardC] using h)
end Go.Proofs.YtmdfgkfimlmmnaaDoor
