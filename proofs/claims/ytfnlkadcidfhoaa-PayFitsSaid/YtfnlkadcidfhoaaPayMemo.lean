/- Layer 5: the map that ways are kept in: each key in it bears the right number. -/
import Derived.Test.YtfnlkadcidfhoaaPayKey
import Derived.Test.YtfnlkadcidfhoaaPayB
import Derived.Maps.RangeWalk
namespace Go.Proofs.Ytfnlkadcidfhoaa
open Go.RowKit Mx Yx
theorem keyV_eq {f g : Nat → Int} {s t : Int} (h : keyV f s = keyV g t) : (∀ i, i < 6 → f i = g i) ∧ s = t := by
  have e : ∀ i, i < 7 → keyF f s i = keyF g t i := fun i hi => by
    have h2 : arr .i64 7 (keyF f s) = arr .i64 7 (keyF g t) := by
      unfold keyV at h; injection h
    have h1 := arr_get .i64 7 (keyF f s) hi
    rw [h2, arr_get .i64 7 (keyF g t) hi] at h1
    injection h1 with h1
    injection h1 with h3 h4
    exact h4.symm
  refine ⟨fun i hi => ?_, ?_⟩
  · have := e i (by omega); unfold keyF at this; rw [if_pos hi, if_pos hi] at this; exact this
  · have := e 6 (by omega); unfold keyF at this; rw [if_neg (by omega), if_neg (by omega)] at this; exact this
theorem cntZ_congr {f g : Nat → Int} (h : ∀ i, i < 6 → f i = g i) (s : Int) : cntZ f s = cntZ g s := by
  unfold cntZ
  rw [waysZ_congr (g := rmN g) 6 (fun i hi => by unfold rmN; rw [h i hi])]
/-- The room is a room, and what is owed is owed. -/
structure OkC (f : Nat → Int) (s : Nat) : Prop where
  room : ∀ i, i < 6 → 0 ≤ f i ∧ f i ≤ 60
  owed : s ≤ 1000
theorem OkC.key {f : Nat → Int} {s : Nat} (h : OkC f s) : ∃ l, keyOf Try.prog 51 (keyV f s) = some l :=
  key_of _ fun i hi => by
    unfold keyF
    have h2 := h.owed
    by_cases e : i < 6
    · rw [if_pos e]; have := h.room i e; omega
    · rw [if_neg e]; omega
theorem OkC.upd {f : Nat → Int} {s : Nat} (h : OkC f s) (p : Nat) {t : Nat} (ht : t ≤ s) : OkC (updI f p 0) t :=
  ⟨fun i hi => by have := h.room i hi; unfold updI; split <;> omega, by have := h.owed; omega⟩
def Right (D : DataW Unit) : Prop := Maps.IsMap D ∧ ∀ (f : Nat → Int) (s : Int) (l : Lit), keyOf Try.prog 51 (keyV f s) = some l → Maps.has D l = true → ∀ z, D.atKey l z = .lit (.int .i64 (cntZ f s))
theorem right_empty : Right (.map []) := ⟨Maps.isMap_empty, fun _ _ _ _ h => by simp [Maps.has] at h⟩
theorem Right.put {D : DataW Unit} (h : Right D) {f : Nat → Int} {s : Int} {l : Lit} (hl : keyOf Try.prog 51 (keyV f s) = some l) : Right (D.put l (.lit (.int .i64 (cntZ f s)))) := by
  refine ⟨h.1.put l _, fun g t l2 h2 hh z => ?_⟩
  by_cases e : l2 = l
  · subst e
    obtain ⟨e1, rfl⟩ := keyV_eq (lawOpen.inj hl h2)
    rw [Maps.atKey_put_same h.1 (lawOpen.key hl), cntZ_congr e1]
  · rw [Maps.has_put_other e] at hh
    rw [Maps.atKey_put_other e]
    exact h.2 g t l2 h2 hh z
theorem zeroI (w : World) : (zeroValue 3).run Try.prog w = .ok (.int .i64 0) w := by kernel_rfl
abbrev Memo (w : World) (B n : Nat) (D : DataW Unit) : Prop := w.ownsMap Try.prog 51 (plainElem Try.prog 3) B n D
theorem grown_below {w w' : World} (h : Below w.heap.size w w') (row : Option Nat) : w.grownBy w' row := ⟨h.os, h.tape, h.output, h.size, fun k hk _ => h.block k hk⟩
theorem grown_drewN {w w' : World} {row : Option Nat} (h : w.grownBy w' row) (n : Nat) : w.grownBy (w'.drewN n) row := ⟨h.os, h.tape, h.output, h.size, h.block⟩
theorem ArrAt.grown {k : IntKind} {n : Nat} {t : TypeId} {w w' : World} {g : Nat} {f : Nat → Int} {row : Option Nat} (h : ArrAt k n t w g f) (hg : w.grownBy w' row) (hne : some g ≠ row) : ArrAt k n t w' g f :=
  (hg.block g h.lt hne).trans h
/-- What stands while it is counted: the box of what is asked, the map. -/
structure StM (w : World) (B : Nat) (f : Nat → Int) (s : Int) (n : Nat) (D : DataW Unit) (wr : World) : Prop where
  lt : B < w.heap.size
  o : ArrAt .i64 7 51 wr w.heap.size (keyF f s)
  m : Memo wr B n D
  right : Right D
  grow : w.grownBy wr (some B)
theorem StM.keep {w wr wy : World} {B n : Nat} {f : Nat → Int} {s : Int} {D : DataW Unit} (h : StM w B f s n D wr) (hb : Below wr.heap.size wr wy) : StM w B f s n D wy :=
  ⟨h.lt, h.o.keep hb, h.m.kept (grown_below hb none) (by simp), h.right, h.grow.trans (grown_below hb _)⟩
theorem StM.drewN {w wr : World} {B n : Nat} {f : Nat → Int} {s : Int} {D : DataW Unit} (h : StM w B f s n D wr) (j : Nat) : StM w B f s n D (wr.drewN j) :=
  ⟨h.lt, h.o, h.m, h.right, grown_drewN h.grow j⟩
theorem StM.turn {w wr wy : World} {B n n' : Nat} {f : Nat → Int} {s : Int} {D D' : DataW Unit} (h : StM w B f s n D wr) (hm : Memo wy B n' D') (hr : Right D') (hg : wr.grownBy wy (some B)) : StM w B f s n' D' wy :=
  ⟨h.lt, h.o.grown hg (by have := h.lt; simp; omega), hm, hr, h.grow.trans hg⟩
theorem stM_new {w : World} {B n : Nat} {D : DataW Unit} (hm : Memo w B n D) (hr : Right D) (f : Nat → Int) (s : Int) : StM w B f s n D (w.alloc (.cells (arr .i64 7 (keyF f s)) 51)) :=
  ⟨hm.lt, ArrAt.new w .i64 7 51 _, hm.alloc _, hr, World.grownBy_alloc w _ _⟩
theorem size7 : (Try.prog.info? 51).map (·.size) = some 7 := by kernel_rfl
/-- What count answers. -/
def CountPost (w : World) (B : Nat) (f : Nat → Int) (s : Int) (N : Nat) (e : Ending) (w' : World) : Prop :=
  e = .returned (.int .i64 (cntZ f s)) ∧ ∃ n D, n ≤ N ∧ Memo w' B n D ∧ Right D ∧ w.grownBy w' (some B)
theorem room_arr (f : Nat → Int) (s : Int) : ((arr .i64 7 (keyF f s)).extract 0 (0 + 6)).toList = (arr .i64 6 f).toList := by
  unfold arr keyF
  simp [List.range_succ]
theorem load_room {ops : Array Oper} {rest : List Oper} {op : Oper} {a : Act} {w : World} {Q : Exit → Act → World → Prop} (hgd : op.guard = none) (x : Operand) (ho : op.op = .load 23 x)
    (b : Nat) (hx : a.eval x = .pointer (some ⟨b, 0, none⟩)) (f : Nat → Int) (s : Int) (h : ArrAt .i64 7 51 w b (keyF f s))
    (hK : wpList Try.prog ops Q rest (a.put op.dst (.agg (arr .i64 6 f))) w) : wpList Try.prog ops Q (op :: rest) a w := by
  refine wpList_load_mid hgd 23 x ho b 0 hx (arr .i64 6 f).toList _ (by rw [← room_arr f s]; exact World.rangeAt_of_block h 0 6) Try.underlying23 rfl (by rw [Array.length_toList, arr_size]; exact size6) ?_
  rw [Array.toArray_toList]
  exact hK
theorem room_cell {w : World} {b : Nat} {f : Nat → Int} {s : Int} (h : ArrAt .i64 7 51 w b (keyF f s)) {p : Nat} (hp : p < 6) : w.cell? ⟨b, p, none⟩ = some (.int .i64 (f p)) := by
  have := h.cell (i := p) (by omega)
  unfold keyF at this
  rw [if_pos hp] at this
  exact this
theorem owed_cell {w : World} {b : Nat} {f : Nat → Int} {s : Int} (h : ArrAt .i64 7 51 w b (keyF f s)) : w.cell? ⟨b, 6, none⟩ = some (.int .i64 s) := h.cell (i := 6) (by omega)
theorem build_open (g : Nat → Int) (q : Int) (W : World) : (Instr.build 51 #[(0, .agg (arr .i64 6 g)), (1, .int .i64 q)]).run Try.prog W = .ok (.agg (arr .i64 7 (keyF g q))) W := by
  kernel_rfl
theorem wpList_build_open {ops : Array Oper} {rest : List Oper} {o : Oper} {a : Act} {w : World} {Q : Exit → Act → World → Prop} (hg : o.guard = none) (x y : Operand) (ho : o.op = .build 51 #[(0, x), (1, y)])
    (g : Nat → Int) (q : Int) (hx : a.eval x = .agg (arr .i64 6 g)) (hy : a.eval y = .int .i64 q) (hK : wpList Try.prog ops Q rest (a.put o.dst (.agg (arr .i64 7 (keyF g q)))) w) : wpList Try.prog ops Q (o :: rest) a w := by
  refine wpList_plain hg fun K' hK' => ?_
  unfold Oper.wp
  simp [execOp, ho, hx, hy, build_open, Result.andThen]
  exact hK' _ _ hK
theorem calls_at {g : FuncId} {xs ys : Array Value} {w : World} {Q : Ending → World → Prop} (h : Calls Try.prog g xs w Q) (e : ys = xs) : Calls Try.prog g ys w Q := e ▸ h
end Go.Proofs.Ytfnlkadcidfhoaa
