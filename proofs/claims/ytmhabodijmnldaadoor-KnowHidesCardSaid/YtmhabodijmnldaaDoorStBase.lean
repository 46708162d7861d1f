/- Layer 10: an object within, loaded whole; a state's box. -/
import Derived.Test.YtmhabodijmnldaaDoorSt
import Derived.IntWalk
import Derived.Deep.Cut
import Derived.Deep.QuietTactic
import Derived.BigQuiet
import Derived.Lib.Hide
import Derived.WalkLawsBesides
import Derived.WalkSpells
namespace Go.Proofs.YtmhabodijmnldaaDoor
open Go.RowKit Ex
set_option maxRecDepth 100000
theorem st_zero18 : #[Value.int .i64 0, Value.int .i64 0, Value.int .i64 0, Value.int .i64 0, Value.int .i64 0, Value.int .i64 0, Value.int .i64 0, Value.int .i64 0, Value.int .i64 0, Value.int .i64 0, Value.int .i64 0, Value.int .i64 0, Value.int .i64 0, Value.int .i64 0, Value.int .i64 0, Value.int .i64 0, Value.int .i64 0, Value.int .i64 0] = arr .i64 18 (fun _ => 0) := (arr_zero .i64 18).symm
theorem load_obj {ops : Array Oper} {rest : List Oper} {op : Oper} {a : Act} {w : World} {Q : Exit → Act → World → Prop} (hgd : op.guard = none) (x : Operand) (ho : op.op = .load 49 x)
    (b o : Nat) (hx : a.eval x = .pointer (some ⟨b, o, none⟩)) (f : Nat → Int) (h : w.rangeAt b o (arr .i64 18 f).toList)
    (hK : wpList Tryd.prog ops Q rest (a.put op.dst (.agg (arr .i64 18 f))) w) : wpList Tryd.prog ops Q (op :: rest) a w := by
  refine wpList_load_mid hgd 49 x ho b o hx (arr .i64 18 f).toList _ h Tryd.underlying49 rfl (by rw [Array.length_toList, arr_size]; exact st_size18) ?_
  rw [Array.toArray_toList]
  exact hK
theorem RdO.at_ {B : Nat} {w : World} {A : Option Addr} {l : List (Nat → Int)} (h : RdO B w A l) {i : Nat} (hi : i < l.length) : ∃ b off, A = some ⟨b, off, none⟩ ∧ b < B ∧ w.rangeAt b (off + i * 18) (arr .i64 18 l[i]).toList :=
  h i _ (List.getElem?_eq_getElem hi)
/-- Block g is an object's box. -/
def ObAt (w : World) (g : Nat) (f : Nat → Int) : Prop := w.heap[g]? = some (.cells (arr .i64 18 f) 49 (0, 0))
theorem ob_box (wr : World) (f : Nat → Int) : ∃ w3, w3 = (wr.alloc (.cells (arr .i64 18 fun _ => 0) 49)).setRow wr.heap.size (arr .i64 18 f) ∧ ObAt w3 wr.heap.size f ∧ Below wr.heap.size wr w3 := by
  refine ⟨_, rfl, ?_, below_setRow ((Below.refl _ _).alloc (Nat.le_refl _) _) _ _ (Nat.le_refl _)⟩
  unfold ObAt
  exact setRow_heap _ _ _ _ _ _ (heap_alloc_new _ _)
theorem arr_box (n : Nat) (t : TypeId) (wr : World) (f : Nat → Int) : ∃ w3, w3 = (wr.alloc (.cells (arr .i64 n fun _ => 0) t)).setRow wr.heap.size (arr .i64 n f) ∧ ArrAt .i64 n t w3 wr.heap.size f ∧ Below wr.heap.size wr w3 := by
  refine ⟨_, rfl, ?_, below_setRow ((Below.refl _ _).alloc (Nat.le_refl _) _) _ _ (Nat.le_refl _)⟩
  unfold ArrAt
  exact setRow_heap _ _ _ _ _ _ (heap_alloc_new _ _)
theorem st_zero9 : #[Value.int .i64 0, Value.int .i64 0, Value.int .i64 0, Value.int .i64 0, Value.int .i64 0, Value.int .i64 0, Value.int .i64 0, Value.int .i64 0, Value.int .i64 0] = arr .i64 9 (fun _ => 0) := (arr_zero .i64 9).symm
theorem zero7 : #[Value.int .i64 0, Value.int .i64 0, Value.int .i64 0, Value.int .i64 0, Value.int .i64 0, Value.int .i64 0, Value.int .i64 0] = arr .i64 7 (fun _ => 0) := (arr_zero .i64 7).symm
theorem st_size9 : (Tryd.prog.info? 25).map (·.size) = some 9 := by kernel_rfl
theorem st_size7 : (Tryd.prog.info? 27).map (·.size) = some 7 := by kernel_rfl
theorem load_nine {ops : Array Oper} {rest : List Oper} {op : Oper} {a : Act} {w : World} {Q : Exit → Act → World → Prop} (hgd : op.guard = none) (x : Operand) (ho : op.op = .load 25 x)
    (b o : Nat) (hx : a.eval x = .pointer (some ⟨b, o, none⟩)) (f : Nat → Int) (h : w.rangeAt b o (arr .i64 9 f).toList)
    (hK : wpList Tryd.prog ops Q rest (a.put op.dst (.agg (arr .i64 9 f))) w) : wpList Tryd.prog ops Q (op :: rest) a w := by
  refine wpList_load_mid hgd 25 x ho b o hx (arr .i64 9 f).toList _ h Tryd.underlying25 rfl (by rw [Array.length_toList, arr_size]; exact st_size9) ?_
  rw [Array.toArray_toList]
  exact hK
theorem load_seven {ops : Array Oper} {rest : List Oper} {op : Oper} {a : Act} {w : World} {Q : Exit → Act → World → Prop} (hgd : op.guard = none) (x : Operand) (ho : op.op = .load 27 x)
    (b o : Nat) (hx : a.eval x = .pointer (some ⟨b, o, none⟩)) (f : Nat → Int) (h : w.rangeAt b o (arr .i64 7 f).toList)
    (hK : wpList Tryd.prog ops Q rest (a.put op.dst (.agg (arr .i64 7 f))) w) : wpList Tryd.prog ops Q (op :: rest) a w := by
  refine wpList_load_mid hgd 27 x ho b o hx (arr .i64 7 f).toList _ h Tryd.underlying27 rfl (by rw [Array.length_toList, arr_size]; exact st_size7) ?_
  rw [Array.toArray_toList]
  exact hK
theorem StAt.pl {w : World} {g : Nat} {O : SlT} {L : Nat → SlT} {p q : Nat → Int} (h : StAt w g (stC O L p q)) {j : Nat} (hj : j < 2) : w.rangeAt g (12 + j * 9) (arr .i64 9 fun i => p (j * 9 + i)).toList := fun i v hv => by
  have hi : i < 9 := by have := (List.getElem?_eq_some_iff.1 hv).1; rw [Array.length_toList, arr_size] at this; exact this
  rw [Array.getElem?_toList, arr_get .i64 9 _ hi] at hv
  rw [h.cell, show 12 + j * 9 + i = 12 + (j * 9 + i) by omega, stC_pl _ _ _ _ (by omega)]
  exact hv
theorem StAt.gm {w : World} {g : Nat} {O : SlT} {L : Nat → SlT} {p q : Nat → Int} (h : StAt w g (stC O L p q)) : w.rangeAt g 30 (arr .i64 7 q).toList := fun i v hv => by
  have hi : i < 7 := by have := (List.getElem?_eq_some_iff.1 hv).1; rw [Array.length_toList, arr_size] at this; exact this
  rw [Array.getElem?_toList, arr_get .i64 7 _ hi] at hv
  rw [h.cell, stC_gm _ _ _ _ hi]
  exact hv
theorem ReadsS.at_list {B : Nat} {w : World} {cs : Array Value} {s : StT} {O : SlT} {L : Nat → SlT} (h : ReadsS B w cs s O L) {z : Nat} (hz : z < 11) :
    ∃ A n c, cs[1 + z]? = some (.slice A n c) ∧ n ≤ c ∧ Nums .i64 w B A n (s.lists z) :=
  ⟨(L z).A, (L z).n, (L z).c, by rw [h.cs]; exact stC_list _ _ _ _ hz, h.lc z hz, h.l z hz⟩
end Go.Proofs.YtmhabodijmnldaaDoor
