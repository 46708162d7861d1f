/- Layer 7: abilities and cards, and how they read in memory. Layer 6: a copy that is written into: spoil. Layer 2: the bytes of numbers and lists, and what bytes tell: plain facts, without the program. Layer 6: effects that a call makes: a list of effects that is appended to, each reading in blocks of its own. Layer 7: a card that a call makes, in blocks of its own, and what is left of its shape when it is written into. Layer 6: the reference's Has; how large an effect is that is looked at. Layer 7: loads of cards, of abilities, of a cost and an effect within one; how large a card is that is looked at. Layer 7: the reference's cost, Uses and Aims. Layer 7: the reference's Uses and Aims. -/
import Derived.Test.YtplfblccaeligaaDoorTreeBase
import Derived.Test.YtplfblccaeligaaDoorManaA
import Derived.WalkKit
import Derived.Laws.BytesArg
import Derived.Lib.BitFns
import Derived.Maps.AppendAt
namespace Go.Proofs.YtplfblccaeligaaDoor
open Go.RowKit Ex Mx
namespace Ex
/-- An ability. -/
structure AbT where
  when_ : Int
  cost : Nat → Int
  tap : Bool
  target : Int
  do_ : ET
/-- A card. -/
structure CardT where
  kind : Int
  colour : Int
  fast : Bool
  cost : Nat → Int
  power : Int
  tough : Int
  says : Int
  abs : List AbT
end Ex
/-- An ability's fourteen cells; xs: its effect's. -/
def abC (a : AbT) (xs : Array Value) : Array Value := #[.int .i64 a.when_] ++ arr .i64 6 a.cost ++ #[.bool a.tap, .int .i64 a.target] ++ xs
/-- A card's thirteen cells. -/
def cardC (c : CardT) (A : Option Addr) (k cc : Nat) : Array Value := #[.int .i64 c.kind, .int .i64 c.colour, .bool c.fast] ++ arr .i64 6 c.cost ++ #[.int .i64 c.power, .int .i64 c.tough, .int .i64 c.says, .slice A k cc]
/-- Fourteen cells read as an ability. -/
def ReadsA (B : Nat) (w : World) (d : Nat) (cs : Array Value) (a : AbT) : Prop := In64 a.when_ ∧ Wide a.cost ∧ In64 a.target ∧ ∃ xs, cs = abC a xs ∧ Reads B w d xs a.do_
/-- A list of abilities. -/
def RdA (B : Nat) (w : World) (d : Nat) (A : Option Addr) (l : List AbT) : Prop := ∀ i a, l[i]? = some a → ∃ b o ys, A = some ⟨b, o, none⟩ ∧ b < B ∧ w.rangeAt b (o + i * 14) ys.toList ∧ ReadsA B w d ys a
/-- Thirteen cells read as a card. -/
def ReadsC (B : Nat) (w : World) (d : Nat) (cs : Array Value) (c : CardT) : Prop := In64 c.kind ∧ In64 c.colour ∧ Wide c.cost ∧ In64 c.power ∧ In64 c.tough ∧ In64 c.says ∧
  ∃ A cc, cs = cardC c A c.abs.length cc ∧ c.abs.length ≤ cc ∧ cc ≤ maxLen ∧ RdA B w d A c.abs
theorem arr6 (f : Nat → Int) : arr .i64 6 f = #[.int .i64 (f 0), .int .i64 (f 1), .int .i64 (f 2), .int .i64 (f 3), .int .i64 (f 4), .int .i64 (f 5)] := by
  have h := arr_list .i64 [f 0, f 1, f 2, f 3, f 4, f 5]
  rw [← show arr .i64 6 (fun i => [f 0, f 1, f 2, f 3, f 4, f 5].getD i 0) = arr .i64 6 f from arr_congr (all6 rfl rfl rfl rfl rfl rfl)]
  exact h
section
variable {B B' d : Nat} {w w' : World} {cs : Array Value}
theorem ReadsA.keep {a : AbT} (hb : Below B w w') (h : ReadsA B w d cs a) : ReadsA B w' d cs a := by
  obtain ⟨h1, h2, h3, xs, e, hr⟩ := h
  exact ⟨h1, h2, h3, xs, e, hr.keep hb⟩
theorem ReadsA.more {a : AbT} (hB : B ≤ B') (h : ReadsA B w d cs a) : ReadsA B' w d cs a := by
  obtain ⟨h1, h2, h3, xs, e, hr⟩ := h
  exact ⟨h1, h2, h3, xs, e, hr.more hB⟩
theorem ReadsA.grow {a : AbT} (h : ReadsA w.heap.size w d cs a) (hb : Below w.heap.size w w') : ReadsA w'.heap.size w' d cs a := (h.keep hb).more hb.size
theorem RdA.keep {A : Option Addr} {l : List AbT} (hb : Below B w w') (h : RdA B w d A l) : RdA B w' d A l := fun i a hi => by
  obtain ⟨b, o, ys, h1, h2, h3, h4⟩ := h i a hi
  exact ⟨b, o, ys, h1, h2, rangeAt_below hb h2 h3, h4.keep hb⟩
theorem RdA.more {A : Option Addr} {l : List AbT} (hB : B ≤ B') (h : RdA B w d A l) : RdA B' w d A l := fun i a hi => by
  obtain ⟨b, o, ys, h1, h2, h3, h4⟩ := h i a hi
  exact ⟨b, o, ys, h1, by omega, h3, h4.more hB⟩
theorem RdA.grow {A : Option Addr} {l : List AbT} (h : RdA w.heap.size w d A l) (hb : Below w.heap.size w w') : RdA w'.heap.size w' d A l := (h.keep hb).more hb.size
theorem ReadsC.grow {c : CardT} (h : ReadsC w.heap.size w d cs c) (hb : Below w.heap.size w w') : ReadsC w'.heap.size w' d cs c := by
  obtain ⟨h1, h2, h3, h4, h5, h6, A, cc, e, hl, hc, hx⟩ := h
  exact ⟨h1, h2, h3, h4, h5, h6, A, cc, e, hl, hc, hx.grow hb⟩
theorem ReadsA.size {a : AbT} (h : ReadsA B w d cs a) : cs.size = 14 := by
  obtain ⟨_, _, _, xs, rfl, hr⟩ := h
  have := hr.size
  simp [abC, arr_size, this]
theorem ReadsC.size {c : CardT} (h : ReadsC B w d cs c) : cs.size = 13 := by
  obtain ⟨_, _, _, _, _, _, A, cc, rfl, _⟩ := h
  simp [cardC, arr_size]
theorem ReadsA.one {a : AbT} (h : ReadsA B w d cs a) : cs.all (·.oneCell') = true := by
  obtain ⟨_, _, _, xs, rfl, hr⟩ := h
  have h1 := hr.one
  have h2 := arr_one .i64 6 a.cost
  simp only [abC, Array.all_append, h1, h2]; simp [Value.oneCell']
theorem ReadsC.one {c : CardT} (h : ReadsC B w d cs c) : cs.all (·.oneCell') = true := by
  obtain ⟨_, _, _, _, _, _, A, cc, rfl, _⟩ := h
  have h2 := arr_one .i64 6 c.cost
  simp only [cardC, Array.all_append, h2]; simp [Value.oneCell']
end
theorem size14 : (Tryd.prog.info? 79).map (·.size) = some 14 := by kernel_rfl
theorem size13 : (Tryd.prog.info? 55).map (·.size) = some 13 := by kernel_rfl
/-- Block g is a card's box; an ability's. -/
def CdAt (w : World) (g : Nat) (cs : Array Value) : Prop := w.heap[g]? = some (.cells cs 55 (0, 0))
def AbAt (w : World) (g : Nat) (cs : Array Value) : Prop := w.heap[g]? = some (.cells cs 79 (0, 0))
section
variable {w w' : World} {g : Nat} {cs : Array Value}
theorem CdAt.new (w : World) (cs : Array Value) : CdAt (w.alloc (.cells cs 55)) w.heap.size cs := heap_alloc_new _ _
theorem CdAt.lt (h : CdAt w g cs) : g < w.heap.size := (Array.getElem?_eq_some_iff.1 h).1
theorem CdAt.keep (h : CdAt w g cs) (hb : Below w.heap.size w w') : CdAt w' g cs := (hb.block g h.lt).trans h
theorem CdAt.cell (h : CdAt w g cs) (i : Nat) : w.cell? ⟨g, i, none⟩ = cs[i]? := cell_of_row w g i cs 55 (0, 0) h
theorem AbAt.new (w : World) (cs : Array Value) : AbAt (w.alloc (.cells cs 79)) w.heap.size cs := heap_alloc_new _ _
theorem AbAt.lt (h : AbAt w g cs) : g < w.heap.size := (Array.getElem?_eq_some_iff.1 h).1
theorem AbAt.keep (h : AbAt w g cs) (hb : Below w.heap.size w w') : AbAt w' g cs := (hb.block g h.lt).trans h
theorem AbAt.cell (h : AbAt w g cs) (i : Nat) : w.cell? ⟨g, i, none⟩ = cs[i]? := cell_of_row w g i cs 79 (0, 0) h
theorem AbAt.range (h : AbAt w g cs) : w.rangeAt g 0 cs.toList := fun j v hv => by rw [Nat.zero_add, h.cell, ← Array.getElem?_toList]; exact hv
theorem CdAt.range (h : CdAt w g cs) : w.rangeAt g 0 cs.toList := fun j v hv => by rw [Nat.zero_add, h.cell, ← Array.getElem?_toList]; exact hv
end
abbrev zeroA : Array Value := #[.int .i64 0, .int .i64 0, .int .i64 0, .int .i64 0, .int .i64 0, .int .i64 0, .int .i64 0, .bool false, .int .i64 0, .int .i64 0, .int .i64 0, .int .i64 0, .int .i64 0, .slice none 0 0]
abbrev zeroD : Array Value := #[.int .i64 0, .int .i64 0, .bool false, .int .i64 0, .int .i64 0, .int .i64 0, .int .i64 0, .int .i64 0, .int .i64 0, .int .i64 0, .int .i64 0, .int .i64 0, .slice none 0 0]
/-- A new box with an ability in it. -/
theorem ab_box (wr : World) {xs : Array Value} : ∃ w3, w3 = (wr.alloc (.cells zeroA 79)).setRow wr.heap.size xs ∧ AbAt w3 wr.heap.size xs ∧ Below wr.heap.size wr w3 := by
  refine ⟨_, rfl, ?_, below_setRow ((Below.refl _ _).alloc (Nat.le_refl _) _) _ _ (Nat.le_refl _)⟩
  unfold AbAt
  exact setRow_heap _ _ _ _ _ _ (heap_alloc_new _ _)
theorem cd_box (wr : World) {xs : Array Value} : ∃ w3, w3 = (wr.alloc (.cells zeroD 55)).setRow wr.heap.size xs ∧ CdAt w3 wr.heap.size xs ∧ Below wr.heap.size wr w3 := by
  refine ⟨_, rfl, ?_, below_setRow ((Below.refl _ _).alloc (Nat.le_refl _) _) _ _ (Nat.le_refl _)⟩
  unfold CdAt
  exact setRow_heap _ _ _ _ _ _ (heap_alloc_new _ _)
/-- A range of cells within a range. -/
theorem range_sub {w : World} {b o : Nat} {xs ys zs : List Value} (h : w.rangeAt b o (xs ++ ys ++ zs)) : w.rangeAt b (o + xs.length) ys := fun j v hv => by
  have hj := (List.getElem?_eq_some_iff.1 hv).1
  have := h (xs.length + j) v (by rw [List.append_assoc, List.getElem?_append_right (by omega), List.getElem?_append_left (by omega), Nat.add_sub_cancel_left]; exact hv)
  rw [← Nat.add_assoc] at this
  exact this
/-- An ability's cells, one by one. -/
theorem ab_cost {w : World} {b o : Nat} {a : AbT} {xs : Array Value} (h : w.rangeAt b o (abC a xs).toList) : w.rangeAt b (o + 1) (arr .i64 6 a.cost).toList :=
  range_sub (xs := [.int .i64 a.when_]) (zs := [.bool a.tap, .int .i64 a.target] ++ xs.toList) (by simpa [abC] using h)
theorem ab_do {w : World} {b o : Nat} {a : AbT} {xs : Array Value} (h : w.rangeAt b o (abC a xs).toList) : w.rangeAt b (o + 9) xs.toList := by
  have h2 := range_sub (xs := .int .i64 a.when_ :: ((arr .i64 6 a.cost).toList ++ [.bool a.tap, .int .i64 a.target])) (ys := xs.toList) (zs := []) (w := w) (b := b) (o := o) (by simpa [abC] using h)
  simpa [arr_size] using h2
theorem abC9 (a : AbT) (xs : Array Value) : abC a xs = #[.int .i64 a.when_, .int .i64 (a.cost 0), .int .i64 (a.cost 1), .int .i64 (a.cost 2), .int .i64 (a.cost 3), .int .i64 (a.cost 4), .int .i64 (a.cost 5), .bool a.tap, .int .i64 a.target] ++ xs := by
  unfold abC; rw [arr6]; rfl
theorem ab_when {a : AbT} {xs : Array Value} : (abC a xs)[0]? = some (.int .i64 a.when_) := by rw [abC9, Array.getElem?_append_left (by simp)]; rfl
theorem ab_tap {a : AbT} {xs : Array Value} : (abC a xs)[7]? = some (.bool a.tap) := by rw [abC9, Array.getElem?_append_left (by simp)]; rfl
theorem ab_target {a : AbT} {xs : Array Value} : (abC a xs)[8]? = some (.int .i64 a.target) := by rw [abC9, Array.getElem?_append_left (by simp)]; rfl
theorem ab_op {a : AbT} {xs : Array Value} (i : Nat) : (abC a xs)[9 + i]? = xs[i]? := by rw [abC9, Array.getElem?_append_right (by simp)]; simp
theorem cd_kind {c : CardT} {A : Option Addr} {k cc : Nat} : (cardC c A k cc)[0]? = some (.int .i64 c.kind) := by simp [cardC, arr6]
theorem cd_colour {c : CardT} {A : Option Addr} {k cc : Nat} : (cardC c A k cc)[1]? = some (.int .i64 c.colour) := by simp [cardC, arr6]
theorem cd_fast {c : CardT} {A : Option Addr} {k cc : Nat} : (cardC c A k cc)[2]? = some (.bool c.fast) := by simp [cardC, arr6]
theorem cd_power {c : CardT} {A : Option Addr} {k cc : Nat} : (cardC c A k cc)[9]? = some (.int .i64 c.power) := by simp [cardC, arr6]
theorem cd_tough {c : CardT} {A : Option Addr} {k cc : Nat} : (cardC c A k cc)[10]? = some (.int .i64 c.tough) := by simp [cardC, arr6]
theorem cd_says {c : CardT} {A : Option Addr} {k cc : Nat} : (cardC c A k cc)[11]? = some (.int .i64 c.says) := by simp [cardC, arr6]
theorem cd_abs {c : CardT} {A : Option Addr} {k cc : Nat} : (cardC c A k cc)[12]? = some (.slice A k cc) := by simp [cardC, arr6]
theorem cd_cost {w : World} {b o : Nat} {c : CardT} {A : Option Addr} {k cc : Nat} (h : w.rangeAt b o (cardC c A k cc).toList) : w.rangeAt b (o + 3) (arr .i64 6 c.cost).toList :=
  range_sub (xs := [.int .i64 c.kind, .int .i64 c.colour, .bool c.fast]) (zs := [.int .i64 c.power, .int .i64 c.tough, .int .i64 c.says, .slice A k cc]) (by simpa [cardC] using h)
end Go.Proofs.YtplfblccaeligaaDoor
namespace Go.Proofs.YtplfblccaeligaaDoor
open Go.RowKit Ex
/-- Blocks from B on, below N, may have turned; others stand. -/
structure Only (B N : Nat) (w w' : World) : Prop where
  os : w'.os = w.os
  tape : w'.tape = w.tape
  output : w'.output = w.output
  size : w.heap.size ≤ w'.heap.size
  block : ∀ k, k < w.heap.size → (k < B ∨ N ≤ k) → w'.heap[k]? = w.heap[k]?
theorem Only.trans {B N : Nat} {a b c : World} (h : Only B N a b) (k : Only B N b c) : Only B N a c :=
  ⟨k.os.trans h.os, k.tape.trans h.tape, k.output.trans h.output, Nat.le_trans h.size k.size, fun i hi ho => (k.block i (by have := h.size; omega) ho).trans (h.block i hi ho)⟩
theorem Only.of_below {B N : Nat} {w w' : World} (h : Below w.heap.size w w') : Only B N w w' := ⟨h.os, h.tape, h.output, h.size, fun k hk _ => h.block k hk⟩
theorem Only.below {B N : Nat} {w w' : World} (h : Only B N w w') (hB : B ≤ w.heap.size) : Below B w w' := ⟨h.os, h.tape, h.output, h.size, fun k hk => h.block k (by omega) (.inl hk)⟩
theorem Only.ev {B N : Nat} {w w' : World} {g : Nat} {cs : Array Value} (h : Only B N w w') (hg : N ≤ g) (he : EvAt w g cs) : EvAt w' g cs := (h.block g he.lt (.inr hg)).trans he
/-- An effect's cells lie in blocks from B on, below N, each effect in five cells of its own. -/
def Apart (B N : Nat) (w : World) : Nat → Array Value → Prop
  | 0, _ => False
  | d + 1, cs => ∃ op n m who A k c, cs = evC op n m who A k c ∧ k ≤ 1000000 ∧ ∀ i, i < k → ∃ b o xs, A = some ⟨b, o * 5, none⟩ ∧ B ≤ b ∧ b < N ∧ w.rangeAt b (o * 5 + i * 5) xs.toList ∧ w.frozen? ⟨b, o * 5 + i * 5 + 1, none⟩ = false ∧ Apart B N w d xs
theorem Apart.n_free {B N : Nat} {w : World} {d : Nat} {op n m who : Int} {A : Option Addr} {k c : Nat} (h : Apart B N w d (evC op n m who A k c)) (x : Int) : Apart B N w d (evC op x m who A k c) := by
  cases d with
  | zero => exact h
  | succ d =>
    obtain ⟨op', n', m', who', A', k', c', e, hk, hx⟩ := h
    simp only [evC, Array.mk.injEq, List.cons.injEq, Value.int.injEq, Value.slice.injEq, true_and, and_true] at e
    obtain ⟨_, _, _, _, rfl, rfl, rfl⟩ := e
    exact ⟨_, _, _, _, _, _, _, rfl, hk, hx⟩
theorem Apart.below {B N : Nat} {w w' : World} (hb : Below w.heap.size w w') : ∀ {d : Nat} {cs : Array Value}, N ≤ w.heap.size → Apart B N w d cs → Apart B N w' d cs
  | 0, _, _, h => h
  | d + 1, cs, hN, h => by
    obtain ⟨op, n, m, who, A, k, c, e, hk, hx⟩ := h
    refine ⟨op, n, m, who, A, k, c, e, hk, fun i hi => ?_⟩
    obtain ⟨b, o, xs, hA, hB, hbN, hra, hf, hap⟩ := hx i hi
    refine ⟨b, o, xs, hA, hB, hbN, rangeAt_below hb (by omega) hra, ?_, hap.below hb hN⟩
    rw [World.frozen?_of_block (hb.block b (by omega))]; exact hf
theorem Apart.set_ {B N : Nat} {w : World} (b0 q : Nat) (x : Int) : ∀ {d : Nat} {cs : Array Value}, Apart B N w d cs → Apart B N (w.setCell ⟨b0, q * 5 + 1, none⟩ (.int .i64 x)) d cs
  | 0, _, h => h
  | d + 1, cs, h => by
    obtain ⟨op, n, m, who, A, k, c, e, hk, hx⟩ := h
    refine ⟨op, n, m, who, A, k, c, e, hk, fun i hi => ?_⟩
    obtain ⟨b, o, xs, hA, hB, hbN, hra, hf, hap⟩ := hx i hi
    have hap' := hap.set_ b0 q x
    by_cases hat : b = b0 ∧ o + i = q
    · obtain ⟨rfl, rfl⟩ := hat
      cases d with
      | zero => exact absurd hap id
      | succ d =>
        have hap2 := hap
        obtain ⟨op1, n1, m1, who1, A1, k1, c1, rfl, _, _⟩ := hap2
        refine ⟨b, o, evC op1 x m1 who1 A1 k1 c1, hA, hB, hbN, fun j v hv => ?_, by rw [World.frozen?_setCell]; exact hf, hap'.n_free x⟩
        have e5 : (o + i) * 5 = o * 5 + i * 5 := by omega
        by_cases e1 : j = 1
        · subst e1
          have hv' : v = .int .i64 x := by simpa [evC] using hv.symm
          subst hv'
          rw [e5]
          exact World.cell?_setCell_same (h := hra 1 (.int .i64 n1) rfl) ..
        · have hv' : (evC op1 n1 m1 who1 A1 k1 c1).toList[j]? = some v := by
            rw [← hv]
            match j, e1 with
            | 0, _ => rfl
            | 1, h => exact absurd rfl h
            | j + 2, _ => rfl
          rw [World.cell?_setCell_other (h := by rw [e5]; intro h; injection h with _ h2; omega)]
          exact hra j v hv'
    · refine ⟨b, o, xs, hA, hB, hbN, fun j v hv => ?_, by rw [World.frozen?_setCell]; exact hf, hap'⟩
      rw [World.cell?_setCell_other (h := by
        intro h
        injection h with h1 h2
        have hj : j < 5 := by
          cases d with
          | zero => exact absurd hap id
          | succ d =>
            obtain ⟨_, _, _, _, _, _, _, rfl, _, _⟩ := hap
            have := (List.getElem?_eq_some_iff.1 hv).1
            simpa [evC] using this
        exact hat ⟨h1.symm, by omega⟩)]
      exact hra j v hv
theorem only_set {B N : Nat} {w : World} {b o : Nat} {v : Value} (h0 : B ≤ b) (h1 : b < N) : Only B N w (w.setCell ⟨b, o, none⟩ v) :=
  ⟨rfl, rfl, rfl, by simp, fun k _ ho => Below.heap_setCell w _ v k (by simp; omega)⟩
theorem results_no {P : Program} {fn : Func} (h : fn.results = #[]) (tmps : Array Value) (w : World) : (results fn tmps).run P w = .ok (.tuple #[]) w := by simp [results, h]
end Go.Proofs.YtplfblccaeligaaDoor
namespace Go.Proofs.YtplfblccaeligaaDoor
namespace Wx
open Go.RowKit

/-- What stands for a number. -/
def stn (n : Int) : Nat := if 0 ≤ n then (2 * n).toNat else (-2 * n - 1).toNat
/-- The number for which one stands. -/
def unf (x : Nat) : Int := if x % 2 = 0 then ((x / 2 : Nat) : Int) else -((x / 2 : Nat) : Int) - 1
def i64B (n : Int) : Prop := -9223372036854775808 ≤ n ∧ n ≤ 9223372036854775807
theorem stn_lt {n : Int} (h : i64B n) : stn n < 18446744073709551616 := by
  unfold i64B at h; unfold stn; split <;> omega
theorem unf_stn (n : Int) : unf (stn n) = n := by
  unfold unf stn; split <;> split <;> omega
theorem stn_unf (x : Nat) : stn (unf x) = x := by
  unfold unf stn; split <;> split <;> omega
theorem unf_i64 {x : Nat} (h : x < 18446744073709551616) : i64B (unf x) := by
  unfold i64B unf; split <;> omega

/-- A number's bytes, with so many behind the first at most. -/
def en : Nat → Nat → List Int
  | 0, x => [(x : Int)]
  | f + 1, x => if x < 128 then [(x : Int)] else ((x % 128 + 128 : Nat) : Int) :: en f (x / 128)
def bts (n : Int) : List Int := en 9 (stn n)
def lst (l : List Int) : List Int := bts l.length ++ l.flatMap bts

def byB (l : List Int) : Prop := ∀ b ∈ l, 0 ≤ b ∧ b < 256
theorem byB_nil : byB [] := by intro b h; cases h
theorem byB_append {a b : List Int} (ha : byB a) (hb : byB b) : byB (a ++ b) := by
  intro x hx; rcases List.mem_append.1 hx with h | h
  · exact ha x h
  · exact hb x h
theorem byB_cons {x : Int} {b : List Int} (h0 : 0 ≤ x) (h1 : x < 256) (hb : byB b) : byB (x :: b) := by
  intro y hy; rcases List.mem_cons.1 hy with h | h
  · subst h; exact ⟨h0, h1⟩
  · exact hb y h
theorem byB_drop {a : List Int} (k : Nat) (h : byB a) : byB (a.drop k) := fun x hx => h x (List.mem_of_mem_drop hx)
theorem byB_take {a : List Int} (k : Nat) (h : byB a) : byB (a.take k) := fun x hx => h x (List.mem_of_mem_take hx)

theorem en_byB : ∀ (f x : Nat), x < 128 ^ (f + 1) → byB (en f x)
  | 0, x, h => by
    intro b hb; simp [en] at hb; subst hb; omega
  | f + 1, x, h => by
    simp only [en]; split
    · intro b hb; simp at hb; subst hb; omega
    · refine byB_cons (by omega) (by omega) (en_byB f _ ?_)
      rw [Nat.pow_succ] at h; omega
theorem pow10 : (128 : Nat) ^ (9 + 1) = 1180591620717411303424 := by decide
theorem bts_byB {n : Int} (h : i64B n) : byB (bts n) := by
  have := stn_lt h
  refine en_byB 9 _ ?_; rw [pow10]; omega
theorem flat_byB {l : List Int} (h : ∀ n ∈ l, i64B n) : byB (l.flatMap bts) := by
  intro b hb
  obtain ⟨n, hn, hb⟩ := List.mem_flatMap.1 hb
  exact bts_byB (h n hn) b hb
theorem en_len : ∀ (f x : Nat), 1 ≤ (en f x).length ∧ (en f x).length ≤ f + 1
  | 0, x => by simp [en]
  | f + 1, x => by
    have := en_len f (x / 128)
    simp only [en]; split <;> simp <;> omega
theorem bts_len (n : Int) : 1 ≤ (bts n).length ∧ (bts n).length ≤ 10 := en_len 9 _
theorem flat_len (l : List Int) : (l.flatMap bts).length ≤ 10 * l.length := by
  induction l with
  | nil => simp
  | cons a l ih => have := bts_len a; simp only [List.flatMap_cons, List.length_append, List.length_cons]; omega
theorem lst_len (l : List Int) : (lst l).length ≤ 10 * l.length + 10 := by
  have := flat_len l; have := bts_len (l.length : Int); unfold lst; simp only [List.length_append]; omega
theorem i64B_len {l : List Int} (h : l.length ≤ 9223372036854775807) : i64B (l.length : Int) := by unfold i64B; omega
theorem lst_byB {l : List Int} (h : ∀ n ∈ l, i64B n) (hl : l.length ≤ 9223372036854775807) : byB (lst l) :=
  byB_append (bts_byB (i64B_len hl)) (flat_byB h)

/-- How many bytes a number has, by its bits. -/
theorem en_bits : ∀ (f x : Nat), x < 128 ^ (f + 1) → x < 18446744073709551616 → (en f x).length = (max (Lib.bitLen x) 1 + 6) / 7
  | 0, x, h, _ => by
    have h' : x < 2 ^ 7 := by simpa using h
    have := Lib.bitLen_le x 7 (by omega) h'
    simp [en]; omega
  | f + 1, x, h, h64 => by
    simp only [en]; split
    · rename_i hx
      have := Lib.bitLen_le x 7 (by omega) (show x < 2 ^ 7 by omega)
      simp; omega
    · rename_i hx
      have ih := en_bits f (x / 128) (by rw [Nat.pow_succ] at h; omega) (by omega)
      have hs := Lib.bitLen_shift 7 x (by omega) h64
      rw [show (2 : Nat) ^ 7 = 128 by decide] at hs
      have hp : 1 ≤ Lib.bitLen (x / 128) := by
        rw [Lib.bitLen_half _ (by omega) (by omega)]; omega
      rw [List.length_cons, ih, hs]; omega
theorem bts_bits {n : Int} (h : i64B n) : (bts n).length = (max (Lib.bitLen (stn n)) 1 + 6) / 7 := by
  have := stn_lt h
  exact en_bits 9 _ (by rw [pow10]; omega) this

/-- With which number bytes begin, how many it has, an error's number: from place i on, x told so far. -/
def dec : Nat → Nat → List Int → Int × Nat × Int
  | _, _, [] => (0, 0, 7)
  | i, x, b :: r =>
    if (b = 0 ∧ 0 < i) ∨ (i = 9 ∧ 1 < b) then (0, 0, 2)
    else if b < 128 then (unf (x + 128 ^ i * b.toNat), i + 1, 0)
    else dec (i + 1) (x + 128 ^ i * (b.toNat - 128)) r
def tk (l : List Int) : Int × Nat × Int := dec 0 0 l

theorem dec_drop {l : List Int} {k y : Nat} (h : k < l.length) : dec k y (l.drop k) = dec k y (l[k] :: l.drop (k + 1)) := by
  rw [List.drop_eq_getElem_cons h]
theorem dec_zero {l : List Int} {k y : Nat} (h : k < l.length) (hb : l[k] = 0) (hk : 0 < k) : dec k y (l.drop k) = (0, 0, 2) := by
  rw [dec_drop h, dec, if_pos (Or.inl ⟨hb, hk⟩)]
theorem dec_ten {l : List Int} {y : Nat} (h : 9 < l.length) (hb : 1 < l[9]) : dec 9 y (l.drop 9) = (0, 0, 2) := by
  rw [dec_drop h, dec, if_pos (Or.inr ⟨rfl, hb⟩)]
theorem dec_last {l : List Int} {k y : Nat} (h : k < l.length) (hb : l[k] < 128) (h0 : ¬ (l[k] = 0 ∧ 0 < k)) (h9 : ¬ (k = 9 ∧ 1 < l[k])) :
    dec k y (l.drop k) = (unf (y + 128 ^ k * l[k].toNat), k + 1, 0) := by
  rw [dec_drop h, dec, if_neg (fun h' => h'.elim h0 h9), if_pos hb]
theorem dec_more {l : List Int} {k y : Nat} (h : k < l.length) (hb : 128 ≤ l[k]) (h9 : k < 9) :
    dec k y (l.drop k) = dec (k + 1) (y + 128 ^ k * (l[k].toNat - 128)) (l.drop (k + 1)) := by
  rw [dec_drop h, dec, if_neg (by omega), if_neg (by omega)]

/-- What a result is: an error, or a number of at most ten bytes. -/
theorem dec_range : ∀ (l : List Int) (i x : Nat), byB l → i ≤ 9 → x < 128 ^ i → ∀ n k e, dec i x l = (n, k, e) →
    (n = 0 ∧ k = 0 ∧ (e = 2 ∨ e = 7)) ∨ (e = 0 ∧ i < k ∧ k ≤ i + l.length ∧ k ≤ 10 ∧ ∃ y, y < 18446744073709551616 ∧ n = unf y ∧ en (9 - i) (y / 128 ^ i) = l.take (k - i) ∧ y % 128 ^ i = x)
  | [], i, x, _, _, _ => by
    intro n k e h; simp [dec] at h; omega
  | b :: r, i, x, hb, hi, hx => by
    intro n k e h
    have hb0 := hb b (by simp)
    have hr : byB r := fun y hy => hb y (by simp [hy])
    rw [dec] at h
    by_cases h1 : (b = 0 ∧ 0 < i) ∨ (i = 9 ∧ 1 < b)
    · rw [if_pos h1] at h; simp at h; omega
    · rw [if_neg h1] at h
      obtain ⟨c, rfl⟩ := Int.eq_ofNat_of_zero_le hb0.1
      rw [Int.toNat_natCast] at h
      have hp : 0 < 128 ^ i := Nat.pow_pos (by decide)
      have hdiv : ∀ d, (x + 128 ^ i * d) / 128 ^ i = d := fun d => by
        rw [Nat.add_mul_div_left _ _ hp, Nat.div_eq_of_lt hx, Nat.zero_add]
      have hmod : ∀ d, (x + 128 ^ i * d) % 128 ^ i = x := fun d => by
        rw [Nat.add_mul_mod_self_left, Nat.mod_eq_of_lt hx]
      by_cases h2 : (c : Int) < 128
      · rw [if_pos h2] at h
        simp only [Prod.mk.injEq] at h
        obtain ⟨rfl, rfl, rfl⟩ := h
        right
        refine ⟨rfl, by omega, by simp, by omega, _, ?_, rfl, ?_, hmod c⟩
        · by_cases h9 : i = 9
          · subst h9
            have hc : c ≤ 1 := by omega
            have : 128 ^ 9 * c ≤ 128 ^ 9 * 1 := Nat.mul_le_mul_left _ hc
            rw [show (128 : Nat) ^ 9 = 9223372036854775808 by decide] at this hx ⊢
            omega
          · have h8 : 128 ^ i ≤ 128 ^ 8 := Nat.pow_le_pow_right (by decide) (by omega)
            have : 128 ^ i * c ≤ 128 ^ i * 127 := Nat.mul_le_mul_left _ (by omega)
            rw [show (128 : Nat) ^ 8 = 72057594037927936 by decide] at h8
            omega
        · rw [hdiv, show i + 1 - i = 1 by omega]
          cases hj : 9 - i with
          | zero => simp [en]
          | succ j => rw [en, if_pos (by omega)]; simp
      · rw [if_neg h2] at h
        have hi9 : i < 9 := by
          rcases Nat.lt_or_ge i 9 with h' | h'
          · exact h'
          · exact absurd (Or.inr ⟨by omega, by omega⟩) h1
        have hx' : x + 128 ^ i * (c - 128) < 128 ^ (i + 1) := by
          have : 128 ^ i * (c - 128) ≤ 128 ^ i * 127 := Nat.mul_le_mul_left _ (by omega)
          rw [Nat.pow_succ]; omega
        rcases dec_range r (i + 1) _ hr (by omega) hx' n k e h with h' | ⟨rfl, h3, h4, h5, y, hy, rfl, hen, hym⟩
        · exact Or.inl h'
        · right
          refine ⟨rfl, by omega, by simp; omega, h5, y, hy, rfl, ?_, ?_⟩
          · obtain ⟨j, hj⟩ : ∃ j, k - i = j + 1 := ⟨k - i - 1, by omega⟩
            have hyi : y / 128 ^ i % 128 = c - 128 := by
              have e1 : y % 128 ^ (i + 1) / 128 ^ i = c - 128 := by rw [hym, hdiv]
              rw [Nat.pow_succ, Nat.mod_mul_right_div_self] at e1
              exact e1
            have hyd : y / 128 ^ i / 128 = y / 128 ^ (i + 1) := by rw [Nat.div_div_eq_div_mul, Nat.pow_succ]
            have hnz : ¬ y / 128 ^ i < 128 := by
              intro hlt
              have h0 : y / 128 ^ (i + 1) = 0 := by rw [← hyd]; exact Nat.div_eq_of_lt hlt
              rw [h0] at hen
              -- the last byte would be 0
              have : en (9 - (i + 1)) 0 = [0] := by cases 9 - (i + 1) <;> simp [en]
              rw [this] at hen
              cases r with
              | nil => simp at h4; omega
              | cons d r' =>
                obtain ⟨j', hj'⟩ : ∃ j', k - (i + 1) = j' + 1 := ⟨k - (i + 1) - 1, by omega⟩
                rw [hj', List.take_succ_cons] at hen
                simp at hen
                obtain ⟨hd, _⟩ := hen
                rw [dec, if_pos (Or.inl ⟨hd.symm, by omega⟩)] at h
                simp at h
            rw [hj, List.take_succ_cons, show 9 - i = (9 - (i + 1)) + 1 by omega, en, if_neg hnz, hyi, hyd, hen, show k - (i + 1) = j by omega]
            have ec : ((c - 128 + 128 : Nat) : Int) = (c : Int) := by omega
            rw [ec]
          · have e1 : y % 128 ^ (i + 1) % 128 ^ i = x := by rw [hym, hmod]
            rw [Nat.pow_succ, Nat.mod_mul_right_mod] at e1
            exact e1

/-- A number's bytes tell it, whatever stands behind. -/
theorem dec_en : ∀ (f i x y : Nat) (r : List Int), f + i = 9 → x < 128 ^ i → x + 128 ^ i * y < 18446744073709551616 → (0 < i → 0 < y) →
    dec i x (en f y ++ r) = (unf (x + 128 ^ i * y), i + (en f y).length, 0)
  | 0, i, x, y, r, hi, hx, h, hy => by
    have hi : i = 9 := by omega
    subst hi
    rw [show (128 : Nat) ^ 9 = 9223372036854775808 by decide] at h
    simp only [en, List.singleton_append]
    rw [dec, if_neg (by omega), if_pos (by omega)]
    simp
  | f + 1, i, x, y, r, hi, hx, h, hy => by
    simp only [en]
    split
    · rename_i hlt
      simp only [List.singleton_append]
      rw [dec, if_neg (by omega), if_pos (by omega)]
      simp
    · rename_i hge
      simp only [List.cons_append]
      have hsum : x + 128 ^ i * (y % 128) + 128 ^ (i + 1) * (y / 128) = x + 128 ^ i * y := by
        have := Nat.div_add_mod y 128
        rw [Nat.pow_succ, Nat.add_assoc, Nat.mul_assoc, ← Nat.mul_add]
        congr 2; omega
      rw [dec, if_neg (by omega), if_neg (by omega)]
      rw [show (((y % 128 + 128 : Nat) : Int).toNat - 128) = y % 128 by omega]
      have hp : 0 < 128 ^ i := Nat.pow_pos (by decide)
      rw [dec_en f (i + 1) _ (y / 128) r (by omega) ?_ (by rw [hsum]; exact h) (by omega), hsum, List.length_cons]
      · congr 2; omega
      · have : 128 ^ i * (y % 128) ≤ 128 ^ i * 127 := Nat.mul_le_mul_left _ (by omega)
        rw [Nat.pow_succ]; omega
theorem tk_bts {n : Int} (h : i64B n) (r : List Int) : tk (bts n ++ r) = (n, (bts n).length, 0) := by
  have := dec_en 9 0 0 (stn n) r rfl (by decide) (by simpa using stn_lt h) (by omega)
  unfold tk bts
  rw [this]; simp [unf_stn]
theorem tk_range {l : List Int} (hl : byB l) {n : Int} {k : Nat} {e : Int} (h : tk l = (n, k, e)) :
    (n = 0 ∧ k = 0 ∧ (e = 2 ∨ e = 7)) ∨ (e = 0 ∧ 0 < k ∧ k ≤ l.length ∧ k ≤ 10 ∧ i64B n ∧ bts n = l.take k) := by
  rcases dec_range l 0 0 hl (by omega) (by decide) n k e h with h1 | ⟨h1, h2, h3, h4, y, hy, rfl, hen, _⟩
  · exact Or.inl h1
  · right
    refine ⟨h1, h2, by omega, h4, unf_i64 hy, ?_⟩
    unfold bts
    rw [stn_unf]
    simpa using hen

/-- The next so many numbers: the list so far, the place. -/
def more : Nat → List Int → Nat → List Int → List Int × Nat × Int
  | 0, _, at', acc => (acc, at', 0)
  | m + 1, l, at', acc => if (tk (l.drop at')).2.2 ≠ 0 then ([], 0, (tk (l.drop at')).2.2) else more m l (at' + (tk (l.drop at')).2.1) (acc ++ [(tk (l.drop at')).1])
/-- With which list bytes begin, how many it has, an error's number. -/
def tl (l : List Int) (most : Int) : List Int × Nat × Int :=
  if (tk l).2.2 ≠ 0 then ([], 0, (tk l).2.2) else if (tk l).1 < 0 then ([], 0, 1) else if most < (tk l).1 then ([], 0, 19) else more (tk l).1.toNat l (tk l).2.1 []

theorem more_bad {m : Nat} {l : List Int} {a : Nat} {acc : List Int} {n : Int} {k : Nat} {e : Int} (h : tk (l.drop a) = (n, k, e)) (he : e ≠ 0) : more (m + 1) l a acc = ([], 0, e) := by
  rw [more, h]; simp [he]
theorem more_ok {m : Nat} {l : List Int} {a : Nat} {acc : List Int} {n : Int} {k : Nat} (h : tk (l.drop a) = (n, k, 0)) : more (m + 1) l a acc = more m l (a + k) (acc ++ [n]) := by
  rw [more, h]; simp
theorem more_range : ∀ (m : Nat) (l : List Int) (a : Nat) (acc : List Int), byB l → a ≤ l.length → (∀ n ∈ acc, i64B n) → ∀ r k e, more m l a acc = (r, k, e) →
    (r = [] ∧ k = 0 ∧ (e = 2 ∨ e = 7)) ∨ (e = 0 ∧ a ≤ k ∧ k ≤ l.length ∧ ∃ s, r = acc ++ s ∧ s.length = m ∧ (∀ n ∈ s, i64B n) ∧ l.drop a = s.flatMap bts ++ l.drop k)
  | 0, l, a, acc, _, ha, _ => by
    intro r k e h; simp [more] at h
    obtain ⟨rfl, rfl, rfl⟩ := h
    exact Or.inr ⟨rfl, Nat.le_refl _, ha, [], by simp⟩
  | m + 1, l, a, acc, hl, ha, hacc => by
    intro r k e h
    obtain ⟨n, j, e1, ht⟩ : ∃ n j e1, tk (l.drop a) = (n, j, e1) := ⟨_, _, _, rfl⟩
    rcases tk_range (byB_drop a hl) ht with ⟨_, _, h1⟩ | ⟨rfl, h1, h2, h3, h4, h5⟩
    · rw [more_bad ht (by omega)] at h; simp at h
      obtain ⟨rfl, rfl, rfl⟩ := h
      exact Or.inl ⟨rfl, rfl, h1⟩
    · rw [more_ok ht] at h
      rw [List.length_drop] at h2
      rcases more_range m l (a + j) (acc ++ [n]) hl (by omega) (by intro x hx; rcases List.mem_append.1 hx with h' | h'; · exact hacc x h'
                                                                   · simp at h'; subst h'; exact h4) r k e h with h' | ⟨rfl, h6, h7, s, rfl, h8, h9, h10⟩
      · exact Or.inl h'
      · right
        refine ⟨rfl, by omega, h7, n :: s, by simp, by simp [h8], ?_, ?_⟩
        · intro x hx; rcases List.mem_cons.1 hx with h' | h'
          · subst h'; exact h4
          · exact h9 x h'
        · rw [List.flatMap_cons, h5, List.append_assoc, ← h10, ← List.drop_drop, List.take_append_drop]
theorem tl_range {l : List Int} (hl : byB l) (most : Int) {r : List Int} {k : Nat} {e : Int} (h : tl l most = (r, k, e)) :
    (r = [] ∧ k = 0 ∧ (e = 1 ∨ e = 2 ∨ e = 7 ∨ e = 19)) ∨ (e = 0 ∧ k ≤ l.length ∧ (∀ n ∈ r, i64B n) ∧ l = lst r ++ l.drop k) := by
  unfold tl at h
  obtain ⟨n, j, e1, ht⟩ : ∃ n j e1, tk l = (n, j, e1) := ⟨_, _, _, rfl⟩
  rw [ht] at h
  rcases tk_range hl ht with ⟨_, _, h1⟩ | ⟨rfl, h1, h2, h3, h4, h5⟩
  · rw [if_pos (by show e1 ≠ 0; omega)] at h; simp at h
    obtain ⟨rfl, rfl, rfl⟩ := h
    exact Or.inl ⟨rfl, rfl, by omega⟩
  · rw [if_neg (by simp)] at h
    by_cases hn : n < 0
    · rw [if_pos hn] at h; simp at h
      obtain ⟨rfl, rfl, rfl⟩ := h
      exact Or.inl ⟨rfl, rfl, by omega⟩
    · rw [if_neg hn] at h
      by_cases hm : most < n
      · rw [if_pos hm] at h; simp at h
        obtain ⟨rfl, rfl, rfl⟩ := h
        exact Or.inl ⟨rfl, rfl, by omega⟩
      · rw [if_neg hm] at h
        rcases more_range n.toNat l j [] hl h2 (by intro x hx; cases hx) r k e h with ⟨h6, h7, h8⟩ | ⟨rfl, h6, h7, s, rfl, h8, h9, h10⟩
        · exact Or.inl ⟨h6, h7, by omega⟩
        · right
          refine ⟨rfl, h7, by simpa using h9, ?_⟩
          unfold lst
          rw [h8, Int.toNat_of_nonneg (by omega), List.append_assoc, ← h10, h5, List.take_append_drop]

theorem more_flat : ∀ (s : List Int) (l : List Int) (a : Nat) (acc : List Int) (r : List Int), (∀ n ∈ s, i64B n) → l.drop a = s.flatMap bts ++ r →
    more s.length l a acc = (acc ++ s, a + (s.flatMap bts).length, 0)
  | [], l, a, acc, r, _, _ => by simp [more]
  | n :: s, l, a, acc, r, h, hd => by
    rw [List.flatMap_cons, List.append_assoc] at hd
    have ht := tk_bts (h n (by simp)) (s.flatMap bts ++ r)
    rw [← hd] at ht
    rw [List.length_cons, more_ok ht, more_flat s l _ (acc ++ [n]) r (fun x hx => h x (by simp [hx])) ?_]
    · simp [Nat.add_assoc]
    · rw [← List.drop_drop, hd, List.drop_left]
/-- A list's bytes tell it, whatever stands behind. -/
theorem tl_lst {s : List Int} (hs : ∀ n ∈ s, i64B n) (hl : s.length ≤ 9223372036854775807) (r : List Int) (most : Int) (hm : (s.length : Int) ≤ most) :
    tl (lst s ++ r) most = (s, (lst s).length, 0) := by
  unfold tl
  have ht : tk (lst s ++ r) = ((s.length : Int), (bts (s.length : Int)).length, (0 : Int)) := by
    unfold lst; rw [List.append_assoc]; exact tk_bts (i64B_len hl) _
  rw [ht]
  simp only [ne_eq, not_true_eq_false, if_false]
  rw [if_neg (by omega), if_neg (by omega), Int.toNat_natCast, more_flat s _ _ [] r hs]
  · unfold lst; simp
  · unfold lst; rw [List.append_assoc, List.drop_left]
/-- Of the bytes of two lists none begin with the other ones'. -/
theorem lst_apart {a b : List Int} (ha : ∀ n ∈ a, i64B n) (hb : ∀ n ∈ b, i64B n) (hal : a.length ≤ 9223372036854775807) (hbl : b.length ≤ 9223372036854775807) (r : List Int)
    (h : lst a ++ r = lst b) : a = b := by
  have h1 := tl_lst ha hal r (max a.length b.length) (by omega)
  have h2 := tl_lst hb hbl [] (max a.length b.length) (by omega)
  rw [List.append_nil, ← h, h1] at h2
  exact (Prod.mk.inj h2).1
theorem pre_eq {a b : List Int} (ha : ∀ n ∈ a, i64B n) (hb : ∀ n ∈ b, i64B n) (hal : a.length ≤ 9223372036854775807) (hbl : b.length ≤ 9223372036854775807) :
    (lst a).take (min (lst a).length (lst b).length) = (lst b).take (min (lst a).length (lst b).length) ↔ a = b := by
  constructor
  · intro h
    rcases Nat.le_total (lst a).length (lst b).length with hle | hle
    · rw [Nat.min_eq_left hle, List.take_length] at h
      refine lst_apart ha hb hal hbl ((lst b).drop (lst a).length) ?_
      rw [h]; simp [List.length_take, Nat.min_eq_left hle]
    · rw [Nat.min_eq_right hle, List.take_length] at h
      refine (lst_apart hb ha hbl hal ((lst a).drop (lst b).length) ?_).symm
      rw [← h]; simp [List.length_take, Nat.min_eq_left hle]
  · intro h; rw [h]

/-- Bytes as a string. -/
theorem str_inj {a b : List Int} (ha : byB a) (hb : byB b) : strOfNums a = strOfNums b ↔ a = b := by
  constructor
  · intro h
    have h1 : a.map (fun n => UInt8.ofNat n.toNat) = b.map (fun n => UInt8.ofNat n.toNat) := by rw [← strOfNums_data, ← strOfNums_data, h]
    apply List.ext_getElem?
    intro i
    have h2 := congrArg (fun l : List UInt8 => l[i]?) h1
    simp only [List.getElem?_map] at h2
    cases hx : a[i]? with
    | none => cases hy : b[i]? with
      | none => rfl
      | some y => simp [hx, hy] at h2
    | some x => cases hy : b[i]? with
      | none => simp [hx, hy] at h2
      | some y =>
        simp only [hx, hy, Option.map_some, Option.some.injEq] at h2
        have bx := ha x (List.mem_of_getElem? hx)
        have b_y := hb y (List.mem_of_getElem? hy)
        have h3 := congrArg UInt8.toNat h2
        simp only [UInt8.toNat_ofNat'] at h3
        congr 1; omega
  · intro h; rw [h]
theorem str_append (a b : List Int) : strOfNums a ++ strOfNums b = strOfNums (a ++ b) := by
  apply ByteArray.ext
  rw [ByteArray.data_append]
  unfold strOfNums
  simp
end Wx
end Go.Proofs.YtplfblccaeligaaDoor
namespace Go.Proofs.YtplfblccaeligaaDoor
open Go.RowKit Ex Wx
/-- Five cells read as an effect, in blocks of Q alone. -/
def ReadsQ (Q : Nat → Prop) (w : World) : Nat → Array Value → ET → Prop
  | 0, _, _ => False
  | d + 1, cs, .node op n m who l => In64 op ∧ In64 n ∧ In64 m ∧ In64 who ∧ ∃ A c, cs = evC op n m who A l.length c ∧ l.length ≤ c ∧ c ≤ maxLen ∧
      ∀ i t, l[i]? = some t → ∃ b o xs, A = some ⟨b, o * 5, none⟩ ∧ Q b ∧ w.rangeAt b (o * 5 + i * 5) xs.toList ∧ (∃ cur, w.heap[b]? = some (.cells cur 65 (0, 0))) ∧ ReadsQ Q w d xs t
theorem ReadsQ.keep {Q Q' : Nat → Prop} {w w' : World} (hb : ∀ b, Q b → w'.heap[b]? = w.heap[b]?) (hq : ∀ b, Q b → Q' b) : ∀ {d : Nat} {cs : Array Value} {t : ET}, ReadsQ Q w d cs t → ReadsQ Q' w' d cs t
  | 0, _, _, h => h
  | d + 1, cs, .node op n m who l, h => by
    obtain ⟨h1, h2, h3, h4, A, c, e, hl, hc, hx⟩ := h
    refine ⟨h1, h2, h3, h4, A, c, e, hl, hc, fun i t hi => ?_⟩
    obtain ⟨b, o, xs, hA, hQ, hra, hfz, hrx⟩ := hx i t hi
    exact ⟨b, o, xs, hA, hq b hQ, fun j v hv => by rw [World.cell?_of_block (hb b hQ)]; exact hra j v hv, by rw [hb b hQ]; exact hfz, hrx.keep hb hq⟩
theorem ReadsQ.deeper {Q : Nat → Prop} {w : World} : ∀ {d d' : Nat} {cs : Array Value} {t : ET}, d ≤ d' → ReadsQ Q w d cs t → ReadsQ Q w d' cs t
  | 0, _, _, _, _, h => absurd h id
  | d + 1, 0, _, _, hd, _ => absurd hd (by omega)
  | d + 1, d' + 1, cs, .node op n m who l, hd, h => by
    obtain ⟨h1, h2, h3, h4, A, c, e, hl, hc, hx⟩ := h
    refine ⟨h1, h2, h3, h4, A, c, e, hl, hc, fun i t hi => ?_⟩
    obtain ⟨b, o, xs, hA, hb, hra, hfz, hrx⟩ := hx i t hi
    exact ⟨b, o, xs, hA, hb, hra, hfz, hrx.deeper (by omega)⟩
theorem ReadsQ.reads {Q : Nat → Prop} {w : World} {B : Nat} (hq : ∀ b, Q b → b < B) : ∀ {d : Nat} {cs : Array Value} {t : ET}, ReadsQ Q w d cs t → Reads B w d cs t
  | 0, _, _, h => h
  | d + 1, cs, .node op n m who l, h => by
    obtain ⟨h1, h2, h3, h4, A, c, e, hl, hc, hx⟩ := h
    refine ⟨h1, h2, h3, h4, A, c, e, hl, hc, fun i t hi => ?_⟩
    obtain ⟨b, o, xs, hA, hQ, hra, _, hrx⟩ := hx i t hi
    exact ⟨b, o * 5, xs, hA, hq b hQ, hra, hrx.reads hq⟩
theorem ReadsQ.apart {Q : Nat → Prop} {w : World} {B N : Nat} (hq : ∀ b, Q b → B ≤ b ∧ b < N) : ∀ {d : Nat} {cs : Array Value} {t : ET}, ReadsQ Q w d cs t → sizeT t ≤ 1000000 → Apart B N w d cs
  | 0, _, _, h, _ => h
  | d + 1, cs, .node op n m who l, h, hs => by
    obtain ⟨h1, h2, h3, h4, A, c, e, hl, hc, hx⟩ := h
    simp only [sizeT] at hs
    have hlen := sizeL_len l
    refine ⟨op, n, m, who, A, l.length, c, e, by omega, fun i hi => ?_⟩
    have hti := List.getElem?_eq_getElem hi
    obtain ⟨b, o, xs, hA, hQ, hra, hfz, hrx⟩ := hx i _ hti
    have := size_mem hti
    obtain ⟨cur, hcur⟩ := hfz
    exact ⟨b, o, xs, hA, (hq b hQ).1, (hq b hQ).2, hra, frozen_of_row w b _ _ _ hcur, hrx.apart hq (by omega)⟩
theorem ReadsQ.shape {Q : Nat → Prop} {d : Nat} {w : World} {cs : Array Value} {t : ET} (h : ReadsQ Q w d cs t) : ∃ A c, cs = evC t.op t.n t.m t.who A t.subs.length c := by
  cases d with
  | zero => exact absurd h id
  | succ d => cases t with
    | node op n m who l => obtain ⟨_, _, _, _, A, c, e, _⟩ := h; exact ⟨A, c, e⟩
theorem ReadsQ.size {Q : Nat → Prop} {d : Nat} {w : World} {cs : Array Value} {t : ET} (h : ReadsQ Q w d cs t) : cs.size = 5 := by
  obtain ⟨A, c, rfl⟩ := h.shape; rfl
theorem ReadsQ.one {Q : Nat → Prop} {d : Nat} {w : World} {cs : Array Value} {t : ET} (h : ReadsQ Q w d cs t) : ∀ u ∈ cs.toList, u.oneCell' = true := by
  obtain ⟨A, c, rfl⟩ := h.shape
  intro u hu
  simp [evC] at hu
  rcases hu with rfl | rfl | rfl | rfl | rfl <;> rfl
/-- All cells of a list of effects. -/
def flatC (css : List (Array Value)) : List Value := css.flatMap (·.toList)
theorem flatC_snoc (css : List (Array Value)) (cs : Array Value) : flatC (css ++ [cs]) = flatC css ++ cs.toList := by simp [flatC]
theorem flatC_len {css : List (Array Value)} (h : ∀ cs ∈ css, cs.size = 5) : (flatC css).length = css.length * 5 := by
  induction css with
  | nil => rfl
  | cons x css ih =>
    have h1 := h x (by simp)
    have h2 := ih (fun y hy => h y (by simp [hy]))
    simp only [flatC, List.flatMap_cons, List.length_append, Array.length_toList, List.length_cons] at h2 ⊢
    omega
theorem flatC_at : ∀ {css : List (Array Value)}, (∀ cs ∈ css, cs.size = 5) → ∀ (i : Nat) (cs : Array Value), css[i]? = some cs → ∀ j v, cs.toList[j]? = some v → (flatC css)[i * 5 + j]? = some v
  | [], _, i, cs, h, _, _, _ => by simp at h
  | x :: css, hs, 0, cs, h, j, v, hv => by
    simp at h; subst h
    simp only [flatC, List.flatMap_cons, Nat.zero_mul, Nat.zero_add]
    rw [List.getElem?_append_left (List.getElem?_eq_some_iff.1 hv).1]; exact hv
  | x :: css, hs, i + 1, cs, h, j, v, hv => by
    have h5 := hs x (by simp)
    have ih := flatC_at (css := css) (fun y hy => hs y (by simp [hy])) i cs (by simpa using h) j v hv
    simp only [flatC, List.flatMap_cons] at ih ⊢
    rw [List.getElem?_append_right (by rw [Array.length_toList]; omega), Array.length_toList, show (i + 1) * 5 + j - x.size = i * 5 + j by omega]
    exact ih
/-- A list of effects of the call's own: its cells, and how they read: in blocks from base on, not in the list's. -/
structure OwnE (w : World) (base d : Nat) (A : Option Addr) (n c : Nat) (ts : List ET) : Prop where
  css : ∃ css : List (Array Value), css.length = ts.length ∧ (∀ cs ∈ css, cs.size = 5) ∧ w.ownsRow base 65 5 (.slice A n c) n (flatC css) ∧
    ∀ (i : Nat) (t : ET) (cs : Array Value), ts[i]? = some t → css[i]? = some cs → ReadsQ (fun b => base ≤ b ∧ b < w.heap.size ∧ some b ≠ (Value.slice A n c).ownBlock) w d cs t
  len : ts.length = n
theorem OwnE.nil (w : World) (base d : Nat) : OwnE w base d none 0 0 [] := ⟨⟨[], rfl, by simp, World.ownsRow_nil w base _ 5, fun i t cs h => by simp at h⟩, rfl⟩
theorem OwnE.below {w w' : World} {base d n c : Nat} {A : Option Addr} {ts : List ET} (h : OwnE w base d A n c ts) (hb : Below w.heap.size w w') : OwnE w' base d A n c ts := by
  obtain ⟨⟨css, h1, h2, h3, h4⟩, h5⟩ := h
  refine ⟨⟨css, h1, h2, h3.kept ⟨hb.os, hb.tape, hb.output, hb.size, fun k hk _ => hb.block k hk⟩ (row := none) ?_, fun i t cs ht hc => (h4 i t cs ht hc).keep (fun b hq => hb.block b hq.2.1) (fun b hq => ⟨hq.1, by have := hb.size; omega, hq.2.2⟩)⟩, h5⟩
  by_cases hv : (Value.slice A n c).ownBlock = none
  · exact .inl hv
  · exact .inr (by intro e; exact hv e)
/-- The list's cells, read as effects within one. -/
theorem OwnE.within {w : World} {base d n c B : Nat} {A : Option Addr} {ts : List ET} (h : OwnE w base d A n c ts) (hB : w.heap.size ≤ B) :
    n ≤ c ∧ c ≤ maxLen ∧ ∀ (i : Nat) (t : ET), ts[i]? = some t → ∃ b o xs, A = some ⟨b, o * 5, none⟩ ∧ (base ≤ b ∧ b < B) ∧ w.rangeAt b (o * 5 + i * 5) xs.toList ∧ (∃ cur, w.heap[b]? = some (.cells cur 65 (0, 0))) ∧ ReadsQ (fun b => base ≤ b ∧ b < B) w d xs t := by
  obtain ⟨⟨css, h1, h2, h3, h4⟩, h5⟩ := h
  rcases h3.2 with ⟨hv, hn⟩ | ⟨g, cap, cur, hv, hbs, hg, hnc, hcm, hcs, htk⟩
  · injection hv with e1 e2 e3
    subst e3
    exact ⟨by omega, by unfold maxLen; omega, fun i t hi => by rw [hn] at h5; rw [List.eq_nil_of_length_eq_zero h5] at hi; simp at hi⟩
  · injection hv with e1 e2 e3
    subst e3
    refine ⟨hnc, hcm, fun i t hi => ?_⟩
    have hlt : i < css.length := by rw [h1]; exact (List.getElem?_eq_some_iff.1 hi).1
    have hcs' := List.getElem?_eq_getElem hlt
    have hgl := (Array.getElem?_eq_some_iff.1 hg).1
    refine ⟨g, 0, css[i], e1, ⟨hbs, by omega⟩, fun j v hv => ?_, ⟨_, hg⟩, (h4 i t _ hi hcs').keep (fun _ _ => rfl) (fun b hq => ⟨hq.1, by omega⟩)⟩
    have := h3.cells (g := g) (by rw [e1]; rfl) (i * 5 + j) v (flatC_at h2 i _ hcs' j v hv)
    rw [Addr.add_mid, ← Nat.add_assoc] at this
    rw [Nat.zero_mul]
    exact this
theorem OwnE.same {w w' : World} {base d n c : Nat} {A : Option Addr} {ts : List ET} (h : OwnE w base d A n c ts) (hs : w.heap.size ≤ w'.heap.size) (hb : ∀ b, base ≤ b → b < w.heap.size → w'.heap[b]? = w.heap[b]?) : OwnE w' base d A n c ts := by
  obtain ⟨⟨css, h1, h2, h3, h4⟩, h5⟩ := h
  refine ⟨⟨css, h1, h2, ⟨h3.1, ?_⟩, fun i t cs ht hc => (h4 i t cs ht hc).keep (fun b hq => hb b hq.1 hq.2.1) (fun b hq => ⟨hq.1, by omega, hq.2.2⟩)⟩, h5⟩
  rcases h3.2 with hv | ⟨g, cap, cur, hv, hbs, hg, rest⟩
  · exact .inl hv
  · exact .inr ⟨g, cap, cur, hv, hbs, by rw [hb g hbs (Array.getElem?_eq_some_iff.1 hg).1]; exact hg, rest⟩
theorem OwnE.ownLt {w : World} {base d n c : Nat} {A : Option Addr} {ts : List ET} (h : OwnE w base d A n c ts) : ∀ g, (Value.slice A n c).ownBlock = some g → base ≤ g := by
  obtain ⟨⟨css, _, _, h3, _⟩, _⟩ := h
  exact fun g hg => (h3.lt g hg).1
theorem OwnE.ownTop {w : World} {base d n c : Nat} {A : Option Addr} {ts : List ET} (h : OwnE w base d A n c ts) : ∀ g, (Value.slice A n c).ownBlock = some g → g < w.heap.size := by
  obtain ⟨⟨css, _, _, h3, _⟩, _⟩ := h
  exact fun g hg => (h3.lt g hg).2
theorem buildSlice_five (a b c d e : Value) (W : World) : (Instr.buildSlice 63 1 #[(0, .agg #[a, b, c, d, e])]).run Tryd.prog W = .ok (.slice (some ⟨W.heap.size, 0, none⟩) 1 1) (W.alloc (.cells #[a, b, c, d, e] 65)) := by
  kernel_rfl
theorem buildSlice_eff (cs : Array Value) (hs : cs.size = 5) (W : World) : (Instr.buildSlice 63 1 #[(0, .agg cs)]).run Tryd.prog W = .ok (.slice (some ⟨W.heap.size, 0, none⟩) 1 1) (W.alloc (.cells cs 65)) := by
  obtain ⟨l⟩ := cs
  match l, hs with
  | [a, b, c, d, e], _ => exact buildSlice_five a b c d e W
theorem wpList_buildSlice_eff {ops : Array Oper} {rest : List Oper} {o : Oper} {a : Act} {w : World} {Q : Exit → Act → World → Prop} (hg : o.guard = none) (x : Operand) (ho : o.op = .buildSlice 63 1 #[(0, x)])
    (cs : Array Value) (hs : cs.size = 5) (hx : a.eval x = .agg cs) (hK : wpList Tryd.prog ops Q rest (a.put o.dst (.slice (some ⟨w.heap.size, 0, none⟩) 1 1)) (w.alloc (.cells cs 65))) : wpList Tryd.prog ops Q (o :: rest) a w := by
  refine wpList_plain hg fun K' hK' => ?_
  unfold Oper.wp
  simp [execOp, ho, hx, buildSlice_eff cs hs, Result.andThen]
  exact hK' _ _ hK
theorem info_eff : (Tryd.prog.info? 65).map (fun i => (i.zero, i.size, i.bytes)) = some (some (.agg zeroE), 5, 56) := by kernel_rfl
/-- One more effect behind the list. -/
theorem wpList_appE {ops : Array Oper} {rest : List Oper} {o : Oper} {a : Act} {w : World} {Q : Exit → Act → World → Prop} (hgd : o.guard = none) (s x : Operand)
    (ho : o.op = .call { callee := .builtin .append, args := #[s, x], argTypes := #[63, 63] })
    (base d : Nat) (A : Option Addr) (n c : Nat) (ts : List ET) (hs : a.eval s = .slice A n c) (h : OwnE w base d A n c ts)
    (g c2 : Nat) (xs : Array Value) (hx : a.eval x = .slice (some ⟨g, 0, none⟩) 1 c2) (hg : EvAt w g xs) (t : ET)
    (hr : ReadsQ (fun b => base ≤ b ∧ b < w.heap.size ∧ some b ≠ (Value.slice A n c).ownBlock) w d xs t) (hn : n ≤ 1000) (hbase : base ≤ w.heap.size)
    (hK : ∀ A' c' w', OwnE w' base d A' (n + 1) c' (ts ++ [t]) → w.grownBy w' (Value.slice A n c).ownBlock → wpList Tryd.prog ops Q rest (a.put o.dst (.slice A' (n + 1) c')) w') :
    wpList Tryd.prog ops Q (o :: rest) a w := by
  obtain ⟨i0, hi, hz0, hz1, hz2⟩ := info_parts info_eff
  obtain ⟨⟨css, h1, h2, h3, h4⟩, h5⟩ := h
  have hxs := hr.size
  refine wpList_append_own_at w hgd s x 63 ho base 65 i0 _ 5 56 Tryd.underlying63 hi hz0 hz1 hz2 rfl (by omega) _ n (flatC css) hs h3 ⟨g, 0, none⟩ 1 c2 xs.toList hx (by rw [Array.length_toList, hxs])
    (fun j u hj => by rw [Addr.add_mid, Nat.zero_add, hg.cell, ← Array.getElem?_toList]; exact hj) hr.one (by unfold maxLen; omega) (by omega) hbase ?_
  intro v' w' hown hgr hnil hat
  rw [← flatC_snoc] at hown
  have hform : ∃ A' c', v' = .slice A' (n + 1) c' := by
    rcases hown.2 with ⟨rfl, hz⟩ | ⟨g', cap, _, rfl, _⟩
    · omega
    · exact ⟨_, _, rfl⟩
  obtain ⟨A', c', rfl⟩ := hform
  have hsz := hgr.size
  refine hK A' c' w' ⟨⟨css ++ [xs], by simp [h1], fun cs hc => ?_, hown, fun i t2 cs ht hc => ?_⟩, by simp [h5]⟩ hgr
  · rcases List.mem_append.1 hc with hc | hc
    · exact h2 cs hc
    · simp at hc; subst hc; exact hxs
  · have hq : ReadsQ (fun b => base ≤ b ∧ b < w.heap.size ∧ some b ≠ (Value.slice A n c).ownBlock) w d cs t2 := by
      by_cases e : i < ts.length
      · rw [List.getElem?_append_left e] at ht
        rw [List.getElem?_append_left (by omega)] at hc
        exact h4 i t2 cs ht hc
      · rw [List.getElem?_append_right (by omega)] at ht hc
        rw [h1] at hc
        cases hk : i - ts.length with
        | zero =>
          rw [hk] at ht hc
          simp at ht hc
          subst ht; subst hc
          exact hr
        | succ k => rw [hk] at ht; simp at ht
    refine hq.keep (fun b hb => hgr.block b hb.2.1 hb.2.2) (fun b hb => ⟨hb.1, by omega, ?_⟩)
    rcases hat with hat | hat
    · rw [hat]; exact hb.2.2
    · rw [hat]; simp; omega
/-- A whole array of cells, and two numbers, as results. -/
theorem results_cell_two {P : Program} {fn : Func} {p q r : Tmp} {ty : TypeId} (h : fn.results = #[.cell p ty, .tmp q, .tmp r]) (tmps : Array Value) (w : World) (g : Nat) (t : TypeId) (cs : Array Value) (fr : Nat × Nat) (d : TypeDesc)
    (hp : tmps.getD p undef = .pointer (some ⟨g, 0, none⟩)) (hg : w.heap[g]? = some (.cells cs t fr))
    (hu : P.underlying ty = some d) (hd : (match d with | .struct _ | .array _ _ => true | _ => false) = true) (hi : (P.info? ty).map (·.size) = some cs.size) :
    (results fn tmps).run P w = .ok (.tuple #[.agg cs, tmps.getD q undef, tmps.getD r undef]) w := by
  have hp' : tmps[p]?.getD undef = .pointer (some ⟨g, 0, none⟩) := by simpa using hp
  simp [results, h, hp', asAddr, run_loadVar_row w g t ty cs fr d hg hu hd hi]
end Go.Proofs.YtplfblccaeligaaDoor
namespace Go.Proofs.YtplfblccaeligaaDoor
open Go.RowKit Ex Mx
/-- Fourteen cells read as an ability, what is within it in blocks of Q. -/
def ReadsAQ (Q : Nat → Prop) (w : World) (d : Nat) (cs : Array Value) (a : AbT) : Prop := In64 a.when_ ∧ Wide a.cost ∧ In64 a.target ∧ ∃ xs, cs = abC a xs ∧ ReadsQ Q w d xs a.do_
def RdAQ (Q : Nat → Prop) (w : World) (d : Nat) (A : Option Addr) (l : List AbT) : Prop := ∀ (i : Nat) (a : AbT), l[i]? = some a → ∃ b o ys, A = some ⟨b, o * 14, none⟩ ∧ Q b ∧ (∃ cur, w.heap[b]? = some (.cells cur 79 (0, 0))) ∧ w.rangeAt b (o * 14 + i * 14) ys.toList ∧ ReadsAQ Q w d ys a
/-- Thirteen cells read as a card, what is within it in blocks of Q. -/
def ReadsCQ (Q : Nat → Prop) (w : World) (d : Nat) (cs : Array Value) (c : CardT) : Prop := In64 c.kind ∧ In64 c.colour ∧ Wide c.cost ∧ In64 c.power ∧ In64 c.tough ∧ In64 c.says ∧
  ∃ A cc, cs = cardC c A c.abs.length cc ∧ c.abs.length ≤ cc ∧ cc ≤ maxLen ∧ RdAQ Q w d A c.abs
section
variable {Q Q' : Nat → Prop} {w w' : World} {d B : Nat} {cs : Array Value}
theorem ReadsAQ.keep {a : AbT} (hb : ∀ b, Q b → w'.heap[b]? = w.heap[b]?) (hq : ∀ b, Q b → Q' b) (h : ReadsAQ Q w d cs a) : ReadsAQ Q' w' d cs a := by
  obtain ⟨h1, h2, h3, xs, e, hr⟩ := h
  exact ⟨h1, h2, h3, xs, e, hr.keep hb hq⟩
theorem RdAQ.keep {A : Option Addr} {l : List AbT} (hb : ∀ b, Q b → w'.heap[b]? = w.heap[b]?) (hq : ∀ b, Q b → Q' b) (h : RdAQ Q w d A l) : RdAQ Q' w' d A l := fun i a hi => by
  obtain ⟨b, o, ys, h1, h2, ⟨cur, h3⟩, h4, h5⟩ := h i a hi
  exact ⟨b, o, ys, h1, hq b h2, ⟨cur, by rw [hb b h2]; exact h3⟩, fun j v hv => by rw [World.cell?_of_block (hb b h2)]; exact h4 j v hv, h5.keep hb hq⟩
theorem ReadsCQ.keep {c : CardT} (hb : ∀ b, Q b → w'.heap[b]? = w.heap[b]?) (hq : ∀ b, Q b → Q' b) (h : ReadsCQ Q w d cs c) : ReadsCQ Q' w' d cs c := by
  obtain ⟨h1, h2, h3, h4, h5, h6, A, cc, e, hl, hc, hx⟩ := h
  exact ⟨h1, h2, h3, h4, h5, h6, A, cc, e, hl, hc, hx.keep hb hq⟩
theorem ReadsAQ.reads {a : AbT} (hq : ∀ b, Q b → b < B) (h : ReadsAQ Q w d cs a) : ReadsA B w d cs a := by
  obtain ⟨h1, h2, h3, xs, e, hr⟩ := h
  exact ⟨h1, h2, h3, xs, e, hr.reads hq⟩
theorem ReadsCQ.reads {c : CardT} (hq : ∀ b, Q b → b < B) (h : ReadsCQ Q w d cs c) : ReadsC B w d cs c := by
  obtain ⟨h1, h2, h3, h4, h5, h6, A, cc, e, hl, hc, hx⟩ := h
  exact ⟨h1, h2, h3, h4, h5, h6, A, cc, e, hl, hc, fun i a hi => by
    obtain ⟨b, o, ys, g1, g2, _, g4, g5⟩ := hx i a hi
    exact ⟨b, o * 14, ys, g1, hq b g2, g4, g5.reads hq⟩⟩
end
/-- The shape of a list of abilities that is written into: where its numbers lie, and the lists within. -/
def SpC (Q : Nat → Prop) (w : World) (A : Option Addr) (k : Nat) : Prop := ∀ i, i < k → ∃ b o, A = some ⟨b, o * 14, none⟩ ∧ Q b ∧ (∃ cur, w.heap[b]? = some (.cells cur 79 (0, 0))) ∧ (∃ wh : Int, w.cell? ⟨b, (o + i) * 14, none⟩ = some (.int .i64 wh)) ∧
  ∃ A2 k2 c2, w.cell? ⟨b, (o + i) * 14 + 13, none⟩ = some (.slice A2 k2 c2) ∧ k2 ≤ 1000 ∧ ∀ j, j < k2 → ∃ b2 o2, A2 = some ⟨b2, o2 * 5, none⟩ ∧ Q b2 ∧ (∃ cur, w.heap[b2]? = some (.cells cur 65 (0, 0))) ∧ ∃ n : Int, w.cell? ⟨b2, (o2 + j) * 5 + 1, none⟩ = some (.int .i64 n)
theorem typed_set {w : World} {b : Nat} {t : TypeId} (h : ∃ cur, w.heap[b]? = some (.cells cur t (0, 0))) (g q : Nat) (v : Value) : ∃ cur, (w.setCell ⟨g, q, none⟩ v).heap[b]? = some (.cells cur t (0, 0)) := by
  obtain ⟨cur, h⟩ := h
  by_cases e : b = g
  · subst e
    exact ⟨_, heap_setCell_same w b q _ _ v h⟩
  · exact ⟨cur, (heap_setCell_other w ⟨g, q, none⟩ b v (by simpa using e)).trans h⟩
theorem typed_ne {w : World} {b g : Nat} (h : ∃ cur, w.heap[b]? = some (.cells cur 79 (0, 0))) (h' : ∃ cur, w.heap[g]? = some (.cells cur 65 (0, 0))) : b ≠ g := by
  intro e
  subst e
  obtain ⟨c1, h1⟩ := h
  obtain ⟨c2, h2⟩ := h'
  rw [h1] at h2
  simp at h2
/-- A number of it is written: its shape stays. -/
theorem SpC.set_ {Q : Nat → Prop} {w : World} {A : Option Addr} {k : Nat} (h : SpC Q w A k) (g q : Nat) (x old : Int) (hold : w.cell? ⟨g, q, none⟩ = some (.int .i64 old))
    (hp : ((∃ cur, w.heap[g]? = some (.cells cur 79 (0, 0))) ∧ ∃ m, q = m * 14) ∨ ((∃ cur, w.heap[g]? = some (.cells cur 65 (0, 0))) ∧ ∃ m, q = m * 5 + 1)) :
    SpC Q (w.setCell ⟨g, q, none⟩ (.int .i64 x)) A k := by
  have num : ∀ (b p : Nat), (∃ n : Int, w.cell? ⟨b, p, none⟩ = some (.int .i64 n)) → ∃ n : Int, (w.setCell ⟨g, q, none⟩ (.int .i64 x)).cell? ⟨b, p, none⟩ = some (.int .i64 n) := fun b p ⟨n, hn⟩ => by
    by_cases e : b = g ∧ p = q
    · obtain ⟨rfl, rfl⟩ := e
      exact ⟨x, World.cell?_setCell_same (h := hold) ..⟩
    · exact ⟨n, by rw [World.cell?_setCell_other (h := by intro h; injection h with h1 h2; exact e ⟨h1.symm, h2.symm⟩)]; exact hn⟩
  intro i hi
  obtain ⟨b, o, h1, h2, h3, h4, A2, k2, c2, h5, h6, h7⟩ := h i hi
  refine ⟨b, o, h1, h2, typed_set h3 g q _, num _ _ h4, A2, k2, c2, ?_, h6, fun j hj => ?_⟩
  · rw [World.cell?_setCell_other (h := by
      intro e
      injection e with e1 e2
      subst e1
      rcases hp with ⟨_, m, hm⟩ | ⟨ht, _⟩
      · omega
      · exact typed_ne h3 ht rfl)]
    exact h5
  · obtain ⟨b2, o2, g1, g2, g3, g4⟩ := h7 j hj
    exact ⟨b2, o2, g1, g2, typed_set g3 g q _, num _ _ g4⟩
/-- What is made has that shape. -/
theorem ReadsQ.subs {Q : Nat → Prop} {w : World} {d : Nat} {xs : Array Value} {t : ET} (h : ReadsQ Q w d xs t) : ∃ A2 c2, xs[4]? = some (.slice A2 t.subs.length c2) ∧ ∀ j, j < t.subs.length → ∃ b2 o2, A2 = some ⟨b2, o2 * 5, none⟩ ∧ Q b2 ∧ (∃ cur, w.heap[b2]? = some (.cells cur 65 (0, 0))) ∧ ∃ n : Int, w.cell? ⟨b2, (o2 + j) * 5 + 1, none⟩ = some (.int .i64 n) := by
  cases d with
  | zero => exact absurd h id
  | succ d =>
    cases t with
    | node op n m who l =>
      obtain ⟨_, _, _, _, A, c, rfl, _, _, hx⟩ := h
      refine ⟨A, c, rfl, fun j hj => ?_⟩
      obtain ⟨b, o, ys, h1, h2, h4, h3, h5⟩ := hx j _ (List.getElem?_eq_getElem hj)
      obtain ⟨Ax, cx, rfl⟩ := h5.shape
      have hj' : j < l.length := hj
      refine ⟨b, o, h1, h2, h3, (l[j]'hj').n, ?_⟩
      have := h4 1 (.int .i64 (l[j]'hj').n) rfl
      rw [show (o + j) * 5 + 1 = o * 5 + j * 5 + 1 by omega]
      exact this
theorem RdAQ.shape {Q : Nat → Prop} {w : World} {d : Nat} {A : Option Addr} {l : List AbT} (h : RdAQ Q w d A l) (hs : ∀ (i : Nat) (a : AbT), l[i]? = some a → sizeT a.do_ ≤ 300) : SpC Q w A l.length := fun i hi => by
  obtain ⟨b, o, ys, h1, h2, h3, h4, _, _, _, xs, hye, hr⟩ := h i _ (List.getElem?_eq_getElem hi)
  obtain ⟨A2, c2, h5, h6⟩ := hr.subs
  have hsz := hs i _ (List.getElem?_eq_getElem hi)
  have hlen : l[i].do_.subs.length ≤ 300 := by
    have h1 := sizeL_len l[i].do_.subs
    have h2 : sizeT l[i].do_ = 1 + sizeL l[i].do_.subs := by cases l[i].do_; simp [sizeT, ET.subs]
    omega
  refine ⟨b, o, h1, h2, h3, ⟨l[i].when_, ?_⟩, A2, _, c2, ?_, by omega, h6⟩
  · have := h4 0 _ (by rw [hye, Array.getElem?_toList]; exact ab_when)
    rw [show (o + i) * 14 = o * 14 + i * 14 by omega]
    exact this
  · have := h4 13 _ (by rw [hye, Array.getElem?_toList]; exact (ab_op 4).trans h5)
    rw [show (o + i) * 14 + 13 = o * 14 + i * 14 + 13 by omega]
    exact this
end Go.Proofs.YtplfblccaeligaaDoor
namespace Go.Proofs.YtplfblccaeligaaDoor
open Go.RowKit Ex
end Go.Proofs.YtplfblccaeligaaDoor
namespace Go.Proofs.YtplfblccaeligaaDoor
open Go.RowKit Ex Mx
section
variable {ops : Array Oper} {rest : List Oper} {o : Oper} {a : Act} {w : World} {Q : Exit → Act → World → Prop}
/-- An ability at a place of a list, loaded whole. -/
theorem load_ab (hgd : o.guard = none) (x : Operand) (ho : o.op = .load 79 x) (b p : Nat) (hx : a.eval x = .pointer (some ⟨b, p, none⟩)) (ys : Array Value) (hs : ys.size = 14) (h : w.rangeAt b p ys.toList)
    (hK : wpList Tryd.prog ops Q rest (a.put o.dst (.agg ys)) w) : wpList Tryd.prog ops Q (o :: rest) a w := by
  refine wpList_load_mid hgd 79 x ho b p hx ys.toList _ h Tryd.underlying79 rfl (by rw [Array.length_toList, hs]; exact size14) ?_
  rw [Array.toArray_toList]
  exact hK
/-- A card's box, loaded whole, guarded or not. -/
theorem wantCd (hw : Region.wanted o (yielded ops a.tmps) = true) (x : Operand) (ho : o.op = .load 55 x) (g : Nat) (hx : a.eval x = .pointer (some ⟨g, 0, none⟩)) (cs : Array Value) (h : CdAt w g cs)
    (hs : (Tryd.prog.info? 55).map (·.size) = some cs.size) (hK : wpList Tryd.prog ops Q rest (a.put o.dst (.agg cs)) w) : wpList Tryd.prog ops Q (o :: rest) a w :=
  BigFrame.wpList_want hw fun _ hK' => wp_load_row 55 x ho g hx 55 cs (0, 0) _ h Tryd.underlying55 rfl hs (hK' _ _ hK)
/-- An effect within an ability, guarded or not. -/
theorem wantDo (hw : Region.wanted o (yielded ops a.tmps) = true) (x : Operand) (ho : o.op = .load 65 x) (b p : Nat) (hx : a.eval x = .pointer (some ⟨b, p, none⟩)) (xs : Array Value) (hs : xs.size = 5) (h : w.rangeAt b p xs.toList)
    (hK : wpList Tryd.prog ops Q rest (a.put o.dst (.agg xs)) w) : wpList Tryd.prog ops Q (o :: rest) a w :=
  BigFrame.wpList_want hw fun _ hK' => wp_load_mid 65 x ho b p hx xs.toList _ h Tryd.underlying65 rfl (by rw [Array.length_toList, hs]; exact size5) (by rw [Array.toArray_toList]; exact hK' _ _ hK)
/-- A cost within an ability or a card, guarded or not. -/
theorem wantCost (hw : Region.wanted o (yielded ops a.tmps) = true) (x : Operand) (ho : o.op = .load 52 x) (b p : Nat) (hx : a.eval x = .pointer (some ⟨b, p, none⟩)) (f : Nat → Int) (h : w.rangeAt b p (arr .i64 6 f).toList)
    (hK : wpList Tryd.prog ops Q rest (a.put o.dst (.agg (arr .i64 6 f))) w) : wpList Tryd.prog ops Q (o :: rest) a w :=
  BigFrame.wpList_want hw fun _ hK' => wp_load_mid 52 x ho b p hx (arr .i64 6 f).toList _ h Tryd.underlying52 rfl (by rw [Array.length_toList, arr_size]; exact size6) (by rw [Array.toArray_toList]; exact hK' _ _ hK)
end
theorem AbAt.do_ {w : World} {g : Nat} {a : AbT} {xs : Array Value} (h : AbAt w g (abC a xs)) : w.rangeAt g 9 xs.toList := by
  have := ab_do h.range
  rw [Nat.zero_add] at this; exact this
theorem AbAt.cost {w : World} {g : Nat} {a : AbT} {xs : Array Value} (h : AbAt w g (abC a xs)) : w.rangeAt g 1 (arr .i64 6 a.cost).toList := by
  have := ab_cost h.range
  rw [Nat.zero_add] at this; exact this
theorem CdAt.cost {w : World} {g : Nat} {c : CardT} {A : Option Addr} {k cc : Nat} (h : CdAt w g (cardC c A k cc)) : w.rangeAt g 3 (arr .i64 6 c.cost).toList := by
  have := cd_cost h.range
  rw [Nat.zero_add] at this; exact this
/-- A card that is looked at. -/
def SmallC (c : CardT) : Prop := c.abs.length ≤ 9 ∧ ∀ (i : Nat) (a : AbT), c.abs[i]? = some a → sizeT a.do_ ≤ 300
end Go.Proofs.YtplfblccaeligaaDoor
namespace Go.Proofs.YtplfblccaeligaaDoor
open Go.RowKit Ex Mx
attribute [local go_sem] arr_get
theorem infoI : (Tryd.prog.info? 3).map (fun i => (i.zero, i.size, i.bytes)) = some (some (.int .i64 0), 1, 8) := by kernel_rfl
namespace Ex
/-- A cost that may be, of nothing if it must. -/
def CostC (f : Nat → Int) (nothing : Bool) : Prop := GoodC f ∧ f 0 + f 1 + f 2 + f 3 + f 4 + f 5 ≤ 20 ∧ (nothing = true → f 0 + f 1 + f 2 + f 3 + f 4 + f 5 = 0)
/-- The places, below k, of the abilities that count then. -/
def usesK (l : List AbT) (wh : Int) : Nat → List Int
  | 0 => []
  | k + 1 => usesK l wh k ++ (match l[k]? with | some a => if a.when_ = wh then [(k : Int)] else [] | none => [])
def usesL (l : List AbT) (wh : Int) : List Int := usesK l wh l.length
theorem usesK_len (l : List AbT) (wh : Int) : ∀ k, (usesK l wh k).length ≤ k
  | 0 => by simp [usesK]
  | k + 1 => by
    have := usesK_len l wh k
    simp only [usesK, List.length_append]
    split
    · split <;> simp <;> omega
    · simp; omega
theorem usesK_yes {l : List AbT} {wh : Int} {k : Nat} {a : AbT} (h : l[k]? = some a) (hw : a.when_ = wh) : usesK l wh (k + 1) = usesK l wh k ++ [(k : Int)] := by simp [usesK, h, hw]
theorem usesK_no {l : List AbT} {wh : Int} {k : Nat} {a : AbT} (h : l[k]? = some a) (hw : a.when_ ≠ wh) : usesK l wh (k + 1) = usesK l wh k := by simp [usesK, h, hw]
/-- Each place in the list is one of an ability that counts then. -/
theorem usesK_at {l : List AbT} {wh : Int} : ∀ {k : Nat} {x : Int}, k ≤ l.length → x ∈ usesK l wh k → ∃ (j : Nat) (a : AbT), x = (j : Int) ∧ j < k ∧ l[j]? = some a ∧ a.when_ = wh
  | 0, x, _, h => by simp [usesK] at h
  | k + 1, x, hk, h => by
    have hlt : k < l.length := by omega
    have ha := List.getElem?_eq_getElem hlt
    by_cases hw : l[k].when_ = wh
    · rw [usesK_yes ha hw] at h
      rcases List.mem_append.1 h with h | h
      · obtain ⟨j, a, h1, h2, h3, h4⟩ := usesK_at (by omega) h
        exact ⟨j, a, h1, by omega, h3, h4⟩
      · simp at h; exact ⟨k, _, h, by omega, ha, hw⟩
    · rw [usesK_no ha hw] at h
      obtain ⟨j, a, h1, h2, h3, h4⟩ := usesK_at (by omega) h
      exact ⟨j, a, h1, by omega, h3, h4⟩
/-- What the first Spell aims at. -/
def aimsL : List AbT → Int
  | [] => 0
  | a :: l => if a.when_ = 0 then a.target else aimsL l
end Ex
end Go.Proofs.YtplfblccaeligaaDoor
namespace Go.Proofs.YtplfblccaeligaaDoor
open Go.RowKit Ex Mx
namespace Ex
theorem aims_uses (l : List AbT) : ∀ k, k ≤ l.length → (usesK l 0 k = [] ∧ ∀ rest, aimsL (l.take k ++ rest) = aimsL rest) ∨ (∃ (j : Nat) (a : AbT) (r : List Int), usesK l 0 k = (j : Int) :: r ∧ l[j]? = some a ∧ j < k ∧ ∀ rest, aimsL (l.take k ++ rest) = a.target)
  | 0, _ => .inl ⟨rfl, fun rest => by simp⟩
  | k + 1, hk => by
    have hlt : k < l.length := by omega
    have ha := List.getElem?_eq_getElem hlt
    have ht : ∀ rest, l.take (k + 1) ++ rest = l.take k ++ (l[k] :: rest) := fun rest => by rw [List.take_succ_eq_append_getElem hlt, List.append_assoc]; rfl
    rcases aims_uses l k (by omega) with ⟨h1, h2⟩ | ⟨j, a, r, h1, h2, h3, h4⟩
    · by_cases hw : l[k].when_ = 0
      · right
        refine ⟨k, l[k], [], by rw [usesK_yes ha hw, h1]; rfl, ha, by omega, fun rest => ?_⟩
        rw [ht, h2]; simp [aimsL, hw]
      · left
        refine ⟨by rw [usesK_no ha hw, h1], fun rest => ?_⟩
        rw [ht, h2]; simp [aimsL, hw]
    · right
      by_cases hw : l[k].when_ = 0
      · exact ⟨j, a, r ++ [(k : Int)], by rw [usesK_yes ha hw, h1]; rfl, h2, by omega, fun rest => by rw [ht, h4]⟩
      · exact ⟨j, a, r, by rw [usesK_no ha hw, h1], h2, by omega, fun rest => by rw [ht, h4]⟩
theorem aims_of (l : List AbT) : (usesL l 0 = [] ∧ aimsL l = 0) ∨ (∃ (j : Nat) (a : AbT) (r : List Int), usesL l 0 = (j : Int) :: r ∧ l[j]? = some a ∧ aimsL l = a.target) := by
  rcases aims_uses l l.length (Nat.le_refl _) with ⟨h1, h2⟩ | ⟨j, a, r, h1, h2, _, h4⟩
  · left
    have := h2 []
    rw [List.take_length, List.append_nil] at this
    exact ⟨h1, this⟩
  · right
    have := h4 []
    rw [List.take_length, List.append_nil] at this
    exact ⟨j, a, r, h1, h2, this⟩
end Ex
/-- Numbers of the call's own. -/
def UsesPost (l : List Int) (w : World) (e : Ending) (w' : World) : Prop := ∃ A m cc, e = .returned (.slice A m cc) ∧ Own .i64 3 w' w.heap.size A m cc l ∧ Below w.heap.size w w'
def UsRel (w1 : World) (l : List AbT) (wh : Int) (v i : Value) (wr : World) : Prop :=
  ∃ A m cc k, v = .slice A m cc ∧ i = .int .i64 ((k : Nat) : Int) ∧ k ≤ l.length ∧ Own .i64 3 wr w1.heap.size A m cc (usesK l wh k) ∧ Below w1.heap.size w1 wr
end Go.Proofs.YtplfblccaeligaaDoor
