/- Layer 8: rows of numbers that a call builds: a slice of slices of literals. -/
import Derived.Test.YtmdfgkfimlmmnaaDoorCardC2
namespace Go.Proofs.YtmdfgkfimlmmnaaDoor
open Go.RowKit Ex Mx
/-- A literal's value, and its number. -/
def litV : Operand → Value
  | .const v => v
  | _ => undef
def litI : Operand → Int
  | .const (.int _ x) => x
  | _ => 0
def rowOf (ps : Array (Nat × Operand)) : List Int := ps.toList.map fun p => litI p.2
/-- Values that are slices of these rows. -/
def RowsAcc (w : World) (base : Nat) (vals : List Value) (rows : List (List Int)) : Prop := vals.length = rows.length ∧
  ∀ (i : Nat) (r : List Int) (v : Value), rows[i]? = some r → vals[i]? = some v → ∃ b, base ≤ b ∧ v = .slice (some ⟨b, 0, none⟩) r.length r.length ∧ Nums .i64 w w.heap.size (some ⟨b, 0, none⟩) r.length r
theorem RowsAcc.nil (w : World) (base : Nat) : RowsAcc w base [] [] := ⟨rfl, fun i r v h => by simp at h⟩
theorem RowsAcc.below {w w' : World} {base : Nat} {vals : List Value} {rows : List (List Int)} (h : RowsAcc w base vals rows) (hb : Below w.heap.size w w') : RowsAcc w' base vals rows :=
  ⟨h.1, fun i r v hi hv => by obtain ⟨b, hbb, e, hN⟩ := h.2 i r v hi hv; exact ⟨b, hbb, e, (hN.below hb).more hb.size⟩⟩
theorem RowsAcc.snoc {w w' : World} {base : Nat} {vals : List Value} {rows : List (List Int)} (h : RowsAcc w base vals rows) (hb : Below w.heap.size w w') (b : Nat) (hbb : base ≤ b) (r : List Int) (hN : Nums .i64 w' w'.heap.size (some ⟨b, 0, none⟩) r.length r) :
    RowsAcc w' base (vals ++ [.slice (some ⟨b, 0, none⟩) r.length r.length]) (rows ++ [r]) := by
  have h' := h.below hb
  refine ⟨by simp [h.1], fun i r2 v hi hv => ?_⟩
  by_cases e : i < rows.length
  · rw [List.getElem?_append_left e] at hi
    rw [List.getElem?_append_left (by rw [h.1]; exact e)] at hv
    exact h'.2 i r2 v hi hv
  · rw [List.getElem?_append_right (by omega)] at hi
    rw [List.getElem?_append_right (by rw [h.1]; omega), h.1] at hv
    cases hk : i - rows.length with
    | zero =>
      rw [hk] at hi hv
      simp at hi hv
      subst hi; subst hv
      exact ⟨b, hbb, rfl, hN⟩
    | succ k => rw [hk] at hi; simp at hi
/-- A block of numbers reads as them. -/
theorem nums_new (w : World) (r : List Int) (e : TypeId) : Nums .i64 (w.alloc (.cells (r.map (Value.int .i64)).toArray e)) (w.alloc (.cells (r.map (Value.int .i64)).toArray e)).heap.size (some ⟨w.heap.size, 0, none⟩) r.length r := by
  refine ⟨rfl, fun i u hu => ⟨_, rfl, by simp, ?_⟩⟩
  rw [Addr.add_mid, Nat.zero_add, cell_of_row _ w.heap.size i _ e (0, 0) (heap_alloc_new _ _)]
  simp [hu]
/-- A row of literals is built. -/
theorem wpList_row {ops : Array Oper} {rest : List Oper} {o : Oper} {a : Act} {w : World} {Q : Exit → Act → World → Prop} {vals : List Value} {rows : List (List Int)} (hg : o.guard = none) {n : Nat} {ps : Array (Nat × Operand)}
    (ho : o.op = .buildSlice 52 n ps) (hev : ∀ ρ : Operand → Value, (∀ v, ρ (.const v) = v) → (ps.map fun (i, x) => (i, ρ x)) = ps.map fun (i, x) => (i, litV x)) (hn : (rowOf ps).length = n)
    (hrun : ∀ W, (Instr.buildSlice 52 n (ps.map fun (i, x) => (i, litV x))).run Tryd.prog W = .ok (.slice (some ⟨W.heap.size, 0, none⟩) n n) (W.alloc (.cells ((rowOf ps).map (Value.int .i64)).toArray 3)))
    {base : Nat} (hbase : base ≤ w.heap.size) (hacc : RowsAcc w base vals rows)
    (hK : ∀ w', Below w.heap.size w w' → RowsAcc w' base (vals ++ [.slice (some ⟨w.heap.size, 0, none⟩) n n]) (rows ++ [rowOf ps]) → wpList Tryd.prog ops Q rest (a.put o.dst (.slice (some ⟨w.heap.size, 0, none⟩) n n)) w') :
    wpList Tryd.prog ops Q (o :: rest) a w := by
  refine wpList_plain hg fun K' hK' => ?_
  have hb : Below w.heap.size w (w.alloc (.cells ((rowOf ps).map (Value.int .i64)).toArray 3)) := (Below.refl _ _).alloc (Nat.le_refl _) _
  have hs := hacc.snoc hb w.heap.size hbase (rowOf ps) (nums_new w (rowOf ps) _)
  rw [hn] at hs
  have := hK' _ _ (hK _ hb hs)
  unfold Oper.wp
  simp only [execOp, ho, hev a.eval (fun _ => rfl)]
  simp [hrun, Result.andThen]
  exact this
/-- The slice at A reads as these rows. -/
def RowsAt (w : World) (base : Nat) (A : Addr) (rows : List (List Int)) : Prop :=
  ∀ (i : Nat) (r : List Int), rows[i]? = some r → A.block < w.heap.size ∧ ∃ b, base ≤ b ∧ w.cell? (A.add i) = some (.slice (some ⟨b, 0, none⟩) r.length r.length) ∧ Nums .i64 w w.heap.size (some ⟨b, 0, none⟩) r.length r
theorem RowsAt.below {w w' : World} {base : Nat} {A : Addr} {rows : List (List Int)} (h : RowsAt w base A rows) (hb : Below w.heap.size w w') : RowsAt w' base A rows := fun i r hi => by
  obtain ⟨hA, b, hbb, hc, hN⟩ := h i r hi
  exact ⟨by have := hb.size; omega, b, hbb, (hb.cell (by rw [addr_block]; exact hA)).trans hc, (hN.below hb).more hb.size⟩
/-- What a call that builds rows answers. -/
def RowsPost (rows : List (List Int)) (w : World) (e : Ending) (w' : World) : Prop := ∃ A, e = .returned (.slice (some A) rows.length rows.length) ∧ RowsAt w' w.heap.size A rows ∧ Below w.heap.size w w'
theorem rows_end {w : World} {base : Nat} {vals : List Value} {rows : List (List Int)} (h : RowsAcc w base vals rows) (e : TypeId) : RowsAt (w.alloc (.cells vals.toArray e)) base ⟨w.heap.size, 0, none⟩ rows := fun i r hi => by
  have hb : Below w.heap.size w (w.alloc (.cells vals.toArray e)) := (Below.refl _ _).alloc (Nat.le_refl _) _
  have hlt : i < vals.length := by rw [h.1]; exact (List.getElem?_eq_some_iff.1 hi).1
  obtain ⟨b, hbb, hv, hN⟩ := (h.below hb).2 i r _ hi (List.getElem?_eq_getElem hlt)
  refine ⟨by simp, b, hbb, ?_, hN⟩
  rw [Addr.add_mid, Nat.zero_add, cell_of_row _ w.heap.size i _ e (0, 0) (heap_alloc_new _ _)]
  simp [List.getElem?_eq_getElem hlt, hv]
/-- The slice of the rows is built. -/
theorem wpList_rows {ops : Array Oper} {rest : List Oper} {o : Oper} {a : Act} {w : World} {Q : Exit → Act → World → Prop} {vals : List Value} {rows : List (List Int)} (hg : o.guard = none) {n : Nat} {ps : Array (Nat × Operand)}
    (ho : o.op = .buildSlice 59 n ps)
    (hrun : ∀ W, (Instr.buildSlice 59 n (ps.map fun (i, x) => (i, a.eval x))).run Tryd.prog W = .ok (.slice (some ⟨W.heap.size, 0, none⟩) n n) (W.alloc (.cells vals.toArray 52)))
    {base : Nat} (hacc : RowsAcc w base vals rows)
    (hK : ∀ w', Below w.heap.size w w' → RowsAt w' base ⟨w.heap.size, 0, none⟩ rows → wpList Tryd.prog ops Q rest (a.put o.dst (.slice (some ⟨w.heap.size, 0, none⟩) n n)) w') :
    wpList Tryd.prog ops Q (o :: rest) a w := by
  refine wpList_plain hg fun K' hK' => ?_
  have hb : Below w.heap.size w (w.alloc (.cells vals.toArray 52)) := (Below.refl _ _).alloc (Nat.le_refl _) _
  have := hK' _ _ (hK _ hb (rows_end hacc _))
  unfold Oper.wp
  simp only [execOp, ho]
  simp [hrun, Result.andThen]
  exact this
namespace Ex
def magicL : List (List Int) := [[0, 2, 4, 0, 0], [4, 9, 0, 0, 2], [1, 10, -2, -2, 2], [3, 1, 2, 0, 2], [1, 10, 3, 3, 2], [1, 6, 0, 0, 2], [0, 4, 2, 0, 0], [2, 19, 1, 0, 2], [1, 1, 4, 0, 2], [1, 11, 2, 0, 2], [0, 20, 1, 0, 0, 10, 1, 1, 2], [5, 7, 0, 0, 2], [2, 3, 3, 0, 2], [1, 10, 3, 0, 2], [1, 23, 64, 0, 2], [5, 8, 0, 0, 2], [0, 17, 3, 0, 0], [0, 21, 0, 0, 0, 3, 2, 0, 1, 2, 2, 0, 0], [0, 20, 0, 0, 0, 1, 2, 0, 2], [0, 14, 2, 116, 0], [0, 21, 0, 0, 0, 2, 2, 0, 0, 4, 1, 0, 0], [1, 12, 0, 0, 2], [1, 6, 0, 0, 2], [0, 1, 3, 0, 4], [0, 15, 3, 4, 0], [0, 22, 0, 10, 0, 2, 8, 0, 0, 4, 1, 0, 0], [0, 21, 0, 0, 0, 4, 3, 0, 0, 19, 1, 0, 0], [0, 5, 4, 0, 4], [3, 21, 0, 0, 0, 1, 2, 0, 2, 4, 1, 0, 0], [0, 20, 1, 0, 0, 11, 1, 0, 2]]
def relicL : List (List Int) := [[5, -1, 0, 0, 20, 1, 0, 0, 10, 0, 2, 2], [5, -1, 0, 0, 20, 1, 0, 0, 23, 1, 0, 2], [5, -1, 0, 0, 20, 2, 0, 0, 10, -1, 0, 2], [5, -1, 0, 0, 20, 1, 0, 0, 10, 1, 0, 2], [5, -1, 0, 0, 20, 1, 0, 0, 10, 1, 1, 2], [4, -1, 0, 0, 2, 1, 0, 0], [4, -1, 0, 0, 17, 1, 0, 0], [4, -1, 0, 0, 3, 1, 0, 4], [4, -1, 0, 0, 1, 1, 0, 1], [4, -1, 0, 0, 15, 1, 4, 0], [1, 5, 1, 1, 10, 0, 1, 2], [1, 5, 1, 1, 12, 0, 0, 2], [1, 5, 1, 0, 3, 1, 0, 1], [1, 5, 1, 3, 1, 1, 0, 2], [1, 5, 1, 1, 13, 0, 0, 2], [5, -1, 0, 0, 20, 0, 0, 0, 25, 1, 0, 2], [1, 1, 0, 0, 13, 0, 0, 3], [5, -1, 0, 0, 20, 2, 0, 0, 24, 1, 1, 2], [3, -1, 0, 0, 1, 3, 0, 4], [2, -1, 0, 0, 14, 1, 119, 0]]
def specialL : List (List Int) := [[2, 1, 0, 0, 0, 0, 0, -1, 0, 0, 18, 0, 0, 0], [2, 2, 0, 0, 0, 0, 0, -1, 0, 0, 19, 2, 0, 1], [2, 1, 0, 0, 0, 0, 0, -1, 0, 0, 16, 3, 0, 1], [2, 1, 1, 0, 0, 0, 0, -1, 0, 0, 17, 2, 0, 1], [2, 2, 0, 0, 0, 0, 0, -1, 0, 0, 5, 3, 0, 4], [2, 3, 1, 0, 0, 0, 0, -1, 0, 4, 9, 0, 0, 2], [2, 2, 0, 0, 0, 0, 0, -1, 0, 0, 20, 0, 0, 0, 7, 0, 0, 2], [3, 2, 0, 0, 0, 0, 1, -1, 0, 0, 15, 1, 5, 0], [1, 2, 0, 1, 1, 0, 1, 5, 0, 0, 13, 0, 0, 3], [2, 3, 0, 0, 0, 0, 0, -1, 0, 0, 14, 2, 112, 0], [2, 4, 0, 0, 0, 0, 0, -1, 0, 0, 20, 0, 0, 0, 6, 0, 0, 2], [1, 3, 1, 2, 3, 5, 3, -1, 0, 0, 4, 1, 0, 0]]
end Ex
set_option linter.unusedSimpArgs false in
set_option maxRecDepth 100000 in
set_option maxHeartbeats 8000000 in
theorem magicRef_any (w : World) : Calls Tryd.prog 22 #[] w (RowsPost magicL w) := by
  go_enter Tryd.func22, Tryd.ntmps22
  go_upto_region 1 with fail
  have hb := Below.refl w.heap.size w
  have hacc := RowsAcc.nil w w.heap.size
  go_wp2_with (first
    | (refine wpList_row rfl rfl (fun ρ h => by simp only [List.map_toArray, List.map_cons, List.map_nil, h, litV]) rfl (fun _ => by kernel_rfl) hb.size hacc ?_; intro w' hb' hacc'; replace hb := keepB hb' hb; replace hacc := hacc'; clear hacc' hb'; simp only [List.nil_append, List.cons_append] at hacc)
    | (refine wpList_rows rfl rfl (fun _ => by kernel_rfl) hacc ?_; intro w' hb' hrows; replace hb := keepB hb' hb; clear hacc hb'))
  go_ret
  exact ⟨_, rfl, hrows, hb⟩
set_option linter.unusedSimpArgs false in
set_option maxRecDepth 100000 in
set_option maxHeartbeats 8000000 in
theorem relicRef_any (w : World) : Calls Tryd.prog 25 #[] w (RowsPost relicL w) := by
  go_enter Tryd.func25, Tryd.ntmps25
  go_upto_region 1 with fail
  have hb := Below.refl w.heap.size w
  have hacc := RowsAcc.nil w w.heap.size
  go_wp2_with (first
    | (refine wpList_row rfl rfl (fun ρ h => by simp only [List.map_toArray, List.map_cons, List.map_nil, h, litV]) rfl (fun _ => by kernel_rfl) hb.size hacc ?_; intro w' hb' hacc'; replace hb := keepB hb' hb; replace hacc := hacc'; clear hacc' hb'; simp only [List.nil_append, List.cons_append] at hacc)
    | (refine wpList_rows rfl rfl (fun _ => by kernel_rfl) hacc ?_; intro w' hb' hrows; replace hb := keepB hb' hb; clear hacc hb'))
  go_ret
  exact ⟨_, rfl, hrows, hb⟩
set_option linter.unusedSimpArgs false in
set_option maxRecDepth 100000 in
set_option maxHeartbeats 8000000 in
theorem specialRef_any (w : World) : Calls Tryd.prog 26 #[] w (RowsPost specialL w) := by
  go_enter Tryd.func26, Tryd.ntmps26
  go_upto_region 1 with fail
  have hb := Below.refl w.heap.size w
  have hacc := RowsAcc.nil w w.heap.size
  go_wp2_with (first
    | (refine wpList_row rfl rfl (fun ρ h => by simp only [List.map_toArray, List.map_cons, List.map_nil, h, litV]) rfl (fun _ => by kernel_rfl) hb.size hacc ?_; intro w' hb' hacc'; replace hb := keepB hb' hb; replace hacc := hacc'; clear hacc' hb'; simp only [List.nil_append, List.cons_append] at hacc)
    | (refine wpList_rows rfl rfl (fun _ => by kernel_rfl) hacc ?_; intro w' hb' hrows; replace hb := keepB hb' hb; clear hacc hb'))
  go_ret
  exact ⟨_, rfl, hrows, hb⟩
end Go.Proofs.YtmdfgkfimlmmnaaDoor
