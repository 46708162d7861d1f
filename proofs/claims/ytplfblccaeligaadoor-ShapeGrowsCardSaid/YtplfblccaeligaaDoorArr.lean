/- Arrays of numbers as values and in memory. Over any program. -/
import Derived.Below
import Derived.Laws.Rows
import Derived.Laws.StructEq
import Derived.Laws.Entries
import Derived.Deep.MidRow
import Derived.WalkKit
import Derived.WideShapes
import Derived.Deep.Draws
namespace Go.Proofs.YtplfblccaeligaaDoor
open Go.RowKit

/-- An array of n numbers. -/
def arr (k : IntKind) (n : Nat) (f : Nat → Int) : Array Value := (Array.range n).map fun i => Value.int k (f i)
/-- f, but for one place. -/
def updI (f : Nat → Int) (j : Nat) (x : Int) : Nat → Int := fun i => if i = j then x else f i
section
variable {k : IntKind} {n : Nat} {f g : Nat → Int}
theorem arr_size (k : IntKind) (n : Nat) (f : Nat → Int) : (arr k n f).size = n := by simp [arr]
theorem arr_get (k : IntKind) (n : Nat) (f : Nat → Int) {i : Nat} (h : i < n) : (arr k n f)[i]? = some (.int k (f i)) := by simp [arr, h]
theorem arr_congr (h : ∀ i, i < n → f i = g i) : arr k n f = arr k n g := by
  apply Array.ext
  · simp [arr]
  · intro i h1 h2
    simp [arr] at h1
    simp [arr, h i h1]
theorem arr_set (k : IntKind) (n : Nat) (f : Nat → Int) (j : Nat) (x : Int) : (arr k n f).setIfInBounds j (.int k x) = arr k n (updI f j x) := by
  apply Array.ext
  · simp [arr]
  · intro i h1 h2
    simp [arr] at h1 h2
    rw [Array.getElem_setIfInBounds (by rw [arr_size]; exact h2)]
    by_cases e : j = i
    · subst e; simp [arr, updI]
    · simp [arr, updI, e, show ¬ i = j from fun h => e h.symm]
theorem arr_one (k : IntKind) (n : Nat) (f : Nat → Int) : (arr k n f).all (·.oneCell') = true := by
  rw [Array.all_eq_true]; intro i hi; simp [arr, Value.oneCell']
end

theorem arr_list (k : IntKind) (l : List Int) : arr k l.length (fun i => l.getD i 0) = (l.map (Value.int k)).toArray := by
  apply Array.ext
  · simp [arr]
  · intro i h1 h2
    simp [arr] at h1
    simp [arr, h1]
theorem arr_zero (k : IntKind) (n : Nat) : arr k n (fun _ => 0) = (List.replicate n (Value.int k 0)).toArray := by
  apply Array.ext
  · simp [arr]
  · intro i h1 h2
    simp [arr]
/-- A whole array, and one number, as results. -/
theorem results_cell_tmp {P : Program} {fn : Func} {p q : Tmp} {ty : TypeId} (h : fn.results = #[.cell p ty, .tmp q]) (tmps : Array Value) (w : World) (g : Nat) (t : TypeId) (cs : Array Value) (fr : Nat × Nat) (d : TypeDesc)
    (hp : tmps.getD p undef = .pointer (some ⟨g, 0, none⟩)) (hg : w.heap[g]? = some (.cells cs t fr))
    (hu : P.underlying ty = some d) (hd : (match d with | .struct _ | .array _ _ => true | _ => false) = true) (hi : (P.info? ty).map (·.size) = some cs.size) :
    (results fn tmps).run P w = .ok (.tuple #[.agg cs, tmps.getD q undef]) w := by
  have hp' : tmps[p]?.getD undef = .pointer (some ⟨g, 0, none⟩) := by simpa using hp
  simp [results, h, hp', asAddr, run_loadVar_row w g t ty cs fr d hg hu hd hi]
/-- Block g is an array of n numbers, f. -/
def ArrAt (k : IntKind) (n : Nat) (t : TypeId) (w : World) (g : Nat) (f : Nat → Int) : Prop := w.heap[g]? = some (.cells (arr k n f) t (0, 0))
section
variable {k : IntKind} {n : Nat} {t : TypeId} {w w' : World} {g : Nat} {f h : Nat → Int}
theorem ArrAt.lt (a : ArrAt k n t w g f) : g < w.heap.size := (Array.getElem?_eq_some_iff.1 a).1
theorem ArrAt.cell (a : ArrAt k n t w g f) {i : Nat} (hi : i < n) : w.cell? ⟨g, i, none⟩ = some (.int k (f i)) := by
  rw [cell_of_row w g i _ t (0, 0) a, arr_get k n f hi]
theorem ArrAt.frozen (a : ArrAt k n t w g f) (i : Nat) : w.frozen? ⟨g, i, none⟩ = false := frozen_of_row w g i _ t a
theorem ArrAt.new (w : World) (k : IntKind) (n : Nat) (t : TypeId) (f : Nat → Int) : ArrAt k n t (w.alloc (.cells (arr k n f) t)) w.heap.size f := heap_alloc_new w _
theorem ArrAt.congr (a : ArrAt k n t w g f) (e : ∀ i, i < n → f i = h i) : ArrAt k n t w g h := by unfold ArrAt at *; rw [a, arr_congr e]
theorem ArrAt.drew (a : ArrAt k n t w g f) : ArrAt k n t w.drew g f := a
theorem ArrAt.drewN (a : ArrAt k n t w g f) (m : Nat) : ArrAt k n t (w.drewN m) g f := a
theorem ArrAt.alloc (a : ArrAt k n t w g f) (o : Obj) : ArrAt k n t (w.alloc o) g f := (Below.heap_alloc w o g a.lt).trans a
theorem ArrAt.below (a : ArrAt k n t w g f) {B : Nat} (hb : Below B w w') (hg : g < B) : ArrAt k n t w' g f := (hb.block g hg).trans a
theorem ArrAt.keep (a : ArrAt k n t w g f) (hb : Below w.heap.size w w') : ArrAt k n t w' g f := a.below hb a.lt
theorem ArrAt.set_ (a : ArrAt k n t w g f) (j : Nat) (x : Int) : ArrAt k n t (w.setCell ⟨g, j, none⟩ (.int k x)) g (updI f j x) := by
  unfold ArrAt at *
  rw [heap_setCell_same w g j _ _ _ a, arr_set]
theorem ArrAt.far (a : ArrAt k n t w g f) {p : Addr} (hp : g ≠ p.block) (u : Value) : ArrAt k n t (w.setCell p u) g f := (Below.heap_setCell w p u g hp).trans a
theorem ArrAt.setRow (a : ArrAt k n t w g f) (h : Nat → Int) : ArrAt k n t (w.setRow g (arr k n h)) g h := setRow_heap w g _ _ _ _ a
theorem ArrAt.farRow (a : ArrAt k n t w g f) {g' : Nat} (hp : g ≠ g') (cs : Array Value) : ArrAt k n t (w.setRow g' cs) g f := (setRow_other w g' g cs hp).trans a
/-- A whole array is read. -/
theorem ArrAt.load {P : Program} (a : ArrAt k n t w g f) {ty : TypeId} {e : TypeId} {m : Nat} (hu : P.underlying ty = some (.array m e)) (hi : (P.info? ty).map (·.size) = some n) :
    (loadVar ty ⟨g, 0, none⟩).run P w = .ok (.agg (arr k n f)) w :=
  run_loadVar_row w g t ty _ _ _ a hu rfl (by rw [hi, arr_size])
theorem yieldsIf_load {P : Program} {ops : Array Oper} {S : World → Prop} {op : Oper} {a : Act} (hw : Region.wanted op (yielded ops a.tmps) = true) (ty : TypeId) (x : Operand) (ho : op.op = .load ty x)
    (g : Nat) (hx : a.eval x = .pointer (some ⟨g, 0, none⟩)) {k : IntKind} {n : Nat} {t : TypeId} {f : Nat → Int} (hS : ∀ w, S w → ArrAt k n t w g f) {e : TypeId} {m : Nat}
    (hu : P.underlying ty = some (.array m e)) (hi : (P.info? ty).map (·.size) = some n) : YieldsIf P ops S op (.agg (arr k n f)) a :=
  .inl ⟨hw, fun w hw' => by
    unfold execOp
    simp only [ho, hx, Instr.loadAt, Instr.sureAddr, Sem.run_bind, Sem.run_pure, Result.andThen_ok, (hS w hw').load hu hi]⟩
end

/-- Are two arrays the same? -/
def sameI (n : Nat) (f g : Nat → Int) : Bool := (List.range n).all fun i => f i == g i
theorem sameI_iff {n : Nat} {f g : Nat → Int} : sameI n f g = true ↔ ∀ i, i < n → f i = g i := by simp [sameI]
theorem sameI_refl (n : Nat) (f : Nat → Int) : sameI n f f = true := sameI_iff.2 fun _ _ => rfl
theorem run_equalIn_arr {P : Program} (w : World) (d : Nat) (t e : TypeId) (k : IntKind) (n : Nat) (ht : P.underlying t = some (.array n e)) (he : P.underlying e = some (.int k)) (hsz : ∀ w, (sizeOf e).run P w = .ok 1 w)
    (f g : Nat → Int) : (Op.equalIn (d + 2) t (.agg (arr k n f)) (.agg (arr k n g))).run P w = .ok (sameI n f g) w := by
  unfold sameI
  rw [List.range_eq_range', Op.equalIn]
  simp only [Sem.run_bind, run_underlying ht, Result.andThen_ok, hsz, Std.Legacy.Range.forIn_eq_forIn_range', Std.Legacy.Range.size, Nat.sub_zero, Nat.add_sub_cancel, Nat.div_one]
  have hl : ∀ i ∈ List.range' 0 n 1, i < n := fun i hi => by simpa using (List.mem_range'_1.1 hi).2
  generalize List.range' 0 n 1 = l at hl ⊢
  induction l with
  | nil => simp
  | cons i l ih =>
    have hi : i < n := hl i (by simp)
    have px : ∀ f : Nat → Int, (part e (arr k n f) (i * 1)).run P w = .ok (.int k (f i)) w := fun f => by
      simp [part, isAgg, run_underlying he, arr, hi]
    have pe : (Op.equalIn (d + 1) e (.int k (f i)) (.int k (g i))).run P w = .ok (f i == g i) w := run_equalIn_int w d e k k _ _ he
    simp only [List.forIn_cons, Sem.run_bind, px, pe, Result.andThen_ok, List.all_cons]
    cases hb : (f i == g i)
    · simp
    · simp only [Bool.not_true, Bool.false_eq_true, if_false, Sem.run_pure, Result.andThen_ok, Bool.true_and]
      exact ih fun j hj => hl j (by simp [hj])
theorem run_eql_arr {P : Program} (w : World) (t e : TypeId) (k : IntKind) (n : Nat) (ht : P.underlying t = some (.array n e)) (he : P.underlying e = some (.int k)) (hsz : ∀ w, (sizeOf e).run P w = .ok 1 w)
    (f g : Nat → Int) : (binOp .eql t (.agg (arr k n f)) (.agg (arr k n g))).run P w = .ok (.bool (sameI n f g)) w := by
  simp only [binOp]
  simp [Op.equal, Op.maxDepth, run_equalIn_arr w 9998 t e k n ht he hsz f g]
theorem run_neq_arr {P : Program} (w : World) (t e : TypeId) (k : IntKind) (n : Nat) (ht : P.underlying t = some (.array n e)) (he : P.underlying e = some (.int k)) (hsz : ∀ w, (sizeOf e).run P w = .ok 1 w)
    (f g : Nat → Int) : (binOp .neq t (.agg (arr k n f)) (.agg (arr k n g))).run P w = .ok (.bool (!sameI n f g)) w := by
  simp only [binOp]
  simp [Op.equal, Op.maxDepth, run_equalIn_arr w 9998 t e k n ht he hsz f g]
end Go.Proofs.YtplfblccaeligaaDoor
