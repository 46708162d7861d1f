/- Layer 10: a state as plain data, and how it reads in memory. -/
import Derived.Test.YtplfblccaeligaaDoorRows
import Derived.Test.YtplfblccaeligaaDoorArr
import Derived.Test.YtplfblccaeligaaDoorSl
import Derived.Test.YtplfblccaeligaaDoorBase0
import Derived.Test.YtplfblccaeligaaDoorGen
import Derived.Lib.Hide
namespace Go.Proofs.YtplfblccaeligaaDoor
open Go.RowKit
set_option maxRecDepth 100000
namespace Ex
/-- A state: objects, lists, the players' numbers one behind the other, the game's. -/
structure StT where
  objs : List (Nat → Int)
  lists : Nat → List Int
  pl : Nat → Int
  gm : Nat → Int
end Ex
open Ex
/-- Eleven slices. -/
def sl11 (L : Nat → SlT) : Array Value := #[(L 0).v, (L 1).v, (L 2).v, (L 3).v, (L 4).v, (L 5).v, (L 6).v, (L 7).v, (L 8).v, (L 9).v, (L 10).v]
theorem sl11_size (L : Nat → SlT) : (sl11 L).size = 11 := rfl
theorem sl11_get (L : Nat → SlT) {z : Nat} (hz : z < 11) : (sl11 L)[z]? = some (L z).v := by
  match z, hz with
  | 0, _ => rfl
  | 1, _ => rfl
  | 2, _ => rfl
  | 3, _ => rfl
  | 4, _ => rfl
  | 5, _ => rfl
  | 6, _ => rfl
  | 7, _ => rfl
  | 8, _ => rfl
  | 9, _ => rfl
  | 10, _ => rfl
/-- A state's 37 cells. -/
def stC (O : SlT) (L : Nat → SlT) (p g : Nat → Int) : Array Value := #[O.v] ++ sl11 L ++ arr .i64 18 p ++ arr .i64 7 g
theorem stC_size (O : SlT) (L : Nat → SlT) (p g : Nat → Int) : (stC O L p g).size = 37 := by simp [stC, sl11_size, arr_size]
theorem stC_objs (O : SlT) (L : Nat → SlT) (p g : Nat → Int) : (stC O L p g)[0]? = some O.v := by
  unfold stC
  rw [Array.getElem?_append_left (by simp [sl11_size, arr_size]), Array.getElem?_append_left (by simp [sl11_size]), Array.getElem?_append_left (by simp)]
  rfl
theorem stC_list (O : SlT) (L : Nat → SlT) (p g : Nat → Int) {z : Nat} (hz : z < 11) : (stC O L p g)[1 + z]? = some (L z).v := by
  unfold stC
  rw [Array.getElem?_append_left (by simp [sl11_size, arr_size]; omega), Array.getElem?_append_left (by simp [sl11_size]; omega), Array.getElem?_append_right (by simp), ← sl11_get L hz]
  congr 1
  simp
theorem stC_pl (O : SlT) (L : Nat → SlT) (p g : Nat → Int) {i : Nat} (hi : i < 18) : (stC O L p g)[12 + i]? = some (.int .i64 (p i)) := by
  unfold stC
  rw [Array.getElem?_append_left (by simp [sl11_size, arr_size]; omega), Array.getElem?_append_right (by simp [sl11_size]), ← arr_get .i64 18 p hi]
  congr 1
  simp [sl11_size]
theorem stC_gm (O : SlT) (L : Nat → SlT) (p g : Nat → Int) {i : Nat} (hi : i < 7) : (stC O L p g)[30 + i]? = some (.int .i64 (g i)) := by
  unfold stC
  rw [Array.getElem?_append_right (by simp [sl11_size, arr_size]), ← arr_get .i64 7 g hi]
  congr 1
  simp [sl11_size, arr_size]
theorem stC_one (O : SlT) (L : Nat → SlT) (p g : Nat → Int) : (stC O L p g).all (·.oneCell') = true := by
  have h1 := arr_one .i64 18 p
  have h2 := arr_one .i64 7 g
  simp only [stC, Array.all_append, h1, h2]
  simp [sl11, SlT.v, Value.oneCell']
/-- Objects that stand one behind the other. -/
def RdO (B : Nat) (w : World) (A : Option Addr) (l : List (Nat → Int)) : Prop := ∀ (i : Nat) (o : Nat → Int), l[i]? = some o → ∃ b off, A = some ⟨b, off, none⟩ ∧ b < B ∧ w.rangeAt b (off + i * 18) (arr .i64 18 o).toList
/-- Thirty-seven cells read as a state. -/
structure ReadsS (B : Nat) (w : World) (cs : Array Value) (s : StT) (O : SlT) (L : Nat → SlT) : Prop where
  cs : cs = stC O L s.pl s.gm
  on : O.n = s.objs.length
  oc : O.n ≤ O.c
  om : O.c ≤ maxLen
  o : RdO B w O.A s.objs
  l : ∀ z < 11, Nums .i64 w B (L z).A (L z).n (s.lists z)
  lc : ∀ z < 11, (L z).n ≤ (L z).c
  ow : ∀ o ∈ s.objs, ∀ i < 18, N64 (o i)
  lw : ∀ z < 11, ∀ x ∈ s.lists z, N64 x
  pw : ∀ i < 18, N64 (s.pl i)
  gw : ∀ i < 7, N64 (s.gm i)
section
variable {B B' : Nat} {w w' : World} {cs : Array Value} {s : StT} {O : SlT} {L : Nat → SlT}
theorem RdO.below {A : Option Addr} {l : List (Nat → Int)} (h : RdO B w A l) (hb : Below B w w') : RdO B w' A l := fun i o hi => by
  obtain ⟨b, off, h1, h2, h3⟩ := h i o hi
  exact ⟨b, off, h1, h2, range_below hb h2 h3⟩
theorem RdO.more {A : Option Addr} {l : List (Nat → Int)} (h : RdO B w A l) (hB : B ≤ B') : RdO B' w A l := fun i o hi => by
  obtain ⟨b, off, h1, h2, h3⟩ := h i o hi
  exact ⟨b, off, h1, by omega, h3⟩
theorem ReadsS.below (h : ReadsS B w cs s O L) (hb : Below B w w') : ReadsS B w' cs s O L :=
  ⟨h.cs, h.on, h.oc, h.om, h.o.below hb, fun z hz => (h.l z hz).below hb, h.lc, h.ow, h.lw, h.pw, h.gw⟩
theorem ReadsS.more (h : ReadsS B w cs s O L) (hB : B ≤ B') : ReadsS B' w cs s O L :=
  ⟨h.cs, h.on, h.oc, h.om, h.o.more hB, fun z hz => (h.l z hz).more hB, h.lc, h.ow, h.lw, h.pw, h.gw⟩
theorem ReadsS.grow (h : ReadsS w.heap.size w cs s O L) (hb : Below w.heap.size w w') : ReadsS w'.heap.size w' cs s O L := (h.below hb).more hb.size
theorem ReadsS.size (h : ReadsS B w cs s O L) : cs.size = 37 := by rw [h.cs, stC_size]
theorem ReadsS.one (h : ReadsS B w cs s O L) : cs.all (·.oneCell') = true := by rw [h.cs]; exact stC_one _ _ _ _
end
theorem size37 : (Tryd.prog.info? 29).map (·.size) = some 37 := by kernel_rfl
theorem st_size18 : (Tryd.prog.info? 37).map (·.size) = some 18 := by kernel_rfl
/-- Block g is a state's box. -/
def StAt (w : World) (g : Nat) (cs : Array Value) : Prop := w.heap[g]? = some (.cells cs 29 (0, 0))
section
variable {w w' : World} {g : Nat} {cs : Array Value}
theorem StAt.new (w : World) (cs : Array Value) : StAt (w.alloc (.cells cs 29)) w.heap.size cs := heap_alloc_new _ _
theorem StAt.lt (h : StAt w g cs) : g < w.heap.size := (Array.getElem?_eq_some_iff.1 h).1
theorem StAt.keep (h : StAt w g cs) (hb : Below w.heap.size w w') : StAt w' g cs := (hb.block g h.lt).trans h
theorem StAt.cell (h : StAt w g cs) (i : Nat) : w.cell? ⟨g, i, none⟩ = cs[i]? := cell_of_row w g i cs 29 (0, 0) h
end
end Go.Proofs.YtplfblccaeligaaDoor
