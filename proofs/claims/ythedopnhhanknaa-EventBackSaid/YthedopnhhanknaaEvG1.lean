/- Arrays of numbers as values and in memory. Over any program. Slices of numbers: which list one reads as; one of the call's own; append, make, string, a cut. Over any program. What all walks share: blocks that stand. Over any program. Layer 10: a state as plain data, and how it reads in memory. Layer 10: an object within, loaded whole; a state's box. Layer 10: the laws' Long. Layer 10: a state's memory, read and written: what needs none of the code's calls. A list of numbers in blocks of the call's own, that may be written into. Layer 10: copies of a state: lists and objects in blocks of the call's own. -/
import Derived.Below
import Derived.Laws.Rows
import Derived.Laws.StructEq
import Derived.Laws.Entries
import Derived.Deep.MidRow
import Derived.WalkKit
import Derived.WideShapes
import Derived.Deep.Draws
import Derived.Laws.OwnMore
import Derived.Laws.BytesArg
import Derived.Maps.AppendAt
import Derived.OwnWalk
import Derived.Test.YthedopnhhanknaaRows
import Derived.Lib.Hide
import Derived.IntWalk
import Derived.Deep.Cut
import Derived.Deep.QuietTactic
import Derived.BigQuiet
import Derived.WalkLawsBesides
import Derived.WalkSpells
namespace Go.Proofs.Ythedopnhhanknaa
open Go.RowKit

/-- An array of n numbers. -/
def arr (k : IntKind) (n : Nat) (f : Nat → Int) : Array Value := (Array.range n).map fun i => Value.int k (f i)
/-- f, but for one place. -/
def updI (f : Nat → Int) (j : Nat) (x : Int) : Nat → Int := fun i => if i = j then x else f i
section
variable {k : IntKind} {n : Nat} {f g : Nat → Int}
theorem arr_size (k : IntKind) (n : Nat) (f : Nat → Int) : (arr k n f).size = n := by simp [arr]
theorem arr_get (k : IntKind) (n : Nat) (f : Nat → Int) {i : Nat} (h : i < n) : (arr k n f)[i]? = some (.int k (f i)) := by simp [arr, h]
theorem arr_congr (h : ∀ i, i < n → f i = g i) : arr k n f = arr k n g := by
  apply Array.ext
  · simp [arr]
  · intro i h1 h2
    simp [arr] at h1
    simp [arr, h i h1]
theorem arr_set (k : IntKind) (n : Nat) (f : Nat → Int) (j : Nat) (x : Int) : (arr k n f).setIfInBounds j (.int k x) = arr k n (updI f j x) := by
  apply Array.ext
  · simp [arr]
  · intro i h1 h2
    simp [arr] at h1 h2
    rw [Array.getElem_setIfInBounds (by rw [arr_size]; exact h2)]
    by_cases e : j = i
    · subst e; simp [arr, updI]
    · simp [arr, updI, e, show ¬ i = j from fun h => e h.symm]
theorem arr_one (k : IntKind) (n : Nat) (f : Nat → Int) : (arr k n f).all (·.oneCell') = true := by
  rw [Array.all_eq_true]; intro i hi; simp [arr, Value.oneCell']
end

theorem arr_list (k : IntKind) (l : List Int) : arr k l.length (fun i => l.getD i 0) = (l.map (Value.int k)).toArray := by
  apply Array.ext
  · simp [arr]
  · intro i h1 h2
    simp [arr] at h1
    simp [arr, h1]
theorem arr_zero (k : IntKind) (n : Nat) : arr k n (fun _ => 0) = (List.replicate n (Value.int k 0)).toArray := by
  apply Array.ext
  · simp [arr]
  · intro i h1 h2
    simp [arr]
/-- A whole array, and one number, as results. -/
theorem results_cell_tmp {P : Program} {fn : Func} {p q : Tmp} {ty : TypeId} (h : fn.results = #[.cell p ty, .tmp q]) (tmps : Array Value) (w : World) (g : Nat) (t : TypeId) (cs : Array Value) (fr : Nat × Nat) (d : TypeDesc)
    (hp : tmps.getD p undef = .pointer (some ⟨g, 0, none⟩)) (hg : w.heap[g]? = some (.cells cs t fr))
    (hu : P.underlying ty = some d) (hd : (match d with | .struct _ | .array _ _ => true | _ => false) = true) (hi : (P.info? ty).map (·.size) = some cs.size) :
    (results fn tmps).run P w = .ok (.tuple #[.agg cs, tmps.getD q undef]) w := by
  have hp' : tmps[p]?.getD undef = .pointer (some ⟨g, 0, none⟩) := by simpa using hp
  simp [results, h, hp', asAddr, run_loadVar_row w g t ty cs fr d hg hu hd hi]
/-- Block g is an array of n numbers, f. -/
def ArrAt (k : IntKind) (n : Nat) (t : TypeId) (w : World) (g : Nat) (f : Nat → Int) : Prop := w.heap[g]? = some (.cells (arr k n f) t (0, 0))
section
variable {k : IntKind} {n : Nat} {t : TypeId} {w w' : World} {g : Nat} {f h : Nat → Int}
theorem ArrAt.lt (a : ArrAt k n t w g f) : g < w.heap.size := (Array.getElem?_eq_some_iff.1 a).1
theorem ArrAt.cell (a : ArrAt k n t w g f) {i : Nat} (hi : i < n) : w.cell? ⟨g, i, none⟩ = some (.int k (f i)) := by
  rw [cell_of_row w g i _ t (0, 0) a, arr_get k n f hi]
theorem ArrAt.frozen (a : ArrAt k n t w g f) (i : Nat) : w.frozen? ⟨g, i, none⟩ = false := frozen_of_row w g i _ t a
theorem ArrAt.new (w : World) (k : IntKind) (n : Nat) (t : TypeId) (f : Nat → Int) : ArrAt k n t (w.alloc (.cells (arr k n f) t)) w.heap.size f := heap_alloc_new w _
theorem ArrAt.congr (a : ArrAt k n t w g f) (e : ∀ i, i < n → f i = h i) : ArrAt k n t w g h := by unfold ArrAt at *; rw [a, arr_congr e]
theorem ArrAt.drew (a : ArrAt k n t w g f) : ArrAt k n t w.drew g f := a
theorem ArrAt.drewN (a : ArrAt k n t w g f) (m : Nat) : ArrAt k n t (w.drewN m) g f := a
theorem ArrAt.alloc (a : ArrAt k n t w g f) (o : Obj) : ArrAt k n t (w.alloc o) g f := (Below.heap_alloc w o g a.lt).trans a
theorem ArrAt.below (a : ArrAt k n t w g f) {B : Nat} (hb : Below B w w') (hg : g < B) : ArrAt k n t w' g f := (hb.block g hg).trans a
theorem ArrAt.keep (a : ArrAt k n t w g f) (hb : Below w.heap.size w w') : ArrAt k n t w' g f := a.below hb a.lt
theorem ArrAt.set_ (a : ArrAt k n t w g f) (j : Nat) (x : Int) : ArrAt k n t (w.setCell ⟨g, j, none⟩ (.int k x)) g (updI f j x) := by
  unfold ArrAt at *
  rw [heap_setCell_same w g j _ _ _ a, arr_set]
theorem ArrAt.far (a : ArrAt k n t w g f) {p : Addr} (hp : g ≠ p.block) (u : Value) : ArrAt k n t (w.setCell p u) g f := (Below.heap_setCell w p u g hp).trans a
theorem ArrAt.setRow (a : ArrAt k n t w g f) (h : Nat → Int) : ArrAt k n t (w.setRow g (arr k n h)) g h := setRow_heap w g _ _ _ _ a
theorem ArrAt.farRow (a : ArrAt k n t w g f) {g' : Nat} (hp : g ≠ g') (cs : Array Value) : ArrAt k n t (w.setRow g' cs) g f := (setRow_other w g' g cs hp).trans a
/-- A whole array is read. -/
theorem ArrAt.load {P : Program} (a : ArrAt k n t w g f) {ty : TypeId} {e : TypeId} {m : Nat} (hu : P.underlying ty = some (.array m e)) (hi : (P.info? ty).map (·.size) = some n) :
    (loadVar ty ⟨g, 0, none⟩).run P w = .ok (.agg (arr k n f)) w :=
  run_loadVar_row w g t ty _ _ _ a hu rfl (by rw [hi, arr_size])
theorem yieldsIf_load {P : Program} {ops : Array Oper} {S : World → Prop} {op : Oper} {a : Act} (hw : Region.wanted op (yielded ops a.tmps) = true) (ty : TypeId) (x : Operand) (ho : op.op = .load ty x)
    (g : Nat) (hx : a.eval x = .pointer (some ⟨g, 0, none⟩)) {k : IntKind} {n : Nat} {t : TypeId} {f : Nat → Int} (hS : ∀ w, S w → ArrAt k n t w g f) {e : TypeId} {m : Nat}
    (hu : P.underlying ty = some (.array m e)) (hi : (P.info? ty).map (·.size) = some n) : YieldsIf P ops S op (.agg (arr k n f)) a :=
  .inl ⟨hw, fun w hw' => by
    unfold execOp
    simp only [ho, hx, Instr.loadAt, Instr.sureAddr, Sem.run_bind, Sem.run_pure, Result.andThen_ok, (hS w hw').load hu hi]⟩
end

/-- Are two arrays the same? -/
def sameI (n : Nat) (f g : Nat → Int) : Bool := (List.range n).all fun i => f i == g i
theorem sameI_iff {n : Nat} {f g : Nat → Int} : sameI n f g = true ↔ ∀ i, i < n → f i = g i := by simp [sameI]
theorem sameI_refl (n : Nat) (f : Nat → Int) : sameI n f f = true := sameI_iff.2 fun _ _ => rfl
theorem run_equalIn_arr {P : Program} (w : World) (d : Nat) (t e : TypeId) (k : IntKind) (n : Nat) (ht : P.underlying t = some (.array n e)) (he : P.underlying e = some (.int k)) (hsz : ∀ w, (sizeOf e).run P w = .ok 1 w)
    (f g : Nat → Int) : (Op.equalIn (d + 2) t (.agg (arr k n f)) (.agg (arr k n g))).run P w = .ok (sameI n f g) w := by
  unfold sameI
  rw [List.range_eq_range', Op.equalIn]
  simp only [Sem.run_bind, run_underlying ht, Result.andThen_ok, hsz, Std.Legacy.Range.forIn_eq_forIn_range', Std.Legacy.Range.size, Nat.sub_zero, Nat.add_sub_cancel, Nat.div_one]
  have hl : ∀ i ∈ List.range' 0 n 1, i < n := fun i hi => by simpa using (List.mem_range'_1.1 hi).2
  generalize List.range' 0 n 1 = l at hl ⊢
  induction l with
  | nil => simp
  | cons i l ih =>
    have hi : i < n := hl i (by simp)
    have px : ∀ f : Nat → Int, (part e (arr k n f) (i * 1)).run P w = .ok (.int k (f i)) w := fun f => by
      simp [part, isAgg, run_underlying he, arr, hi]
    have pe : (Op.equalIn (d + 1) e (.int k (f i)) (.int k (g i))).run P w = .ok (f i == g i) w := run_equalIn_int w d e k k _ _ he
    simp only [List.forIn_cons, Sem.run_bind, px, pe, Result.andThen_ok, List.all_cons]
    cases hb : (f i == g i)
    · simp
    · simp only [Bool.not_true, Bool.false_eq_true, if_false, Sem.run_pure, Result.andThen_ok, Bool.true_and]
      exact ih fun j hj => hl j (by simp [hj])
theorem run_eql_arr {P : Program} (w : World) (t e : TypeId) (k : IntKind) (n : Nat) (ht : P.underlying t = some (.array n e)) (he : P.underlying e = some (.int k)) (hsz : ∀ w, (sizeOf e).run P w = .ok 1 w)
    (f g : Nat → Int) : (binOp .eql t (.agg (arr k n f)) (.agg (arr k n g))).run P w = .ok (.bool (sameI n f g)) w := by
  simp only [binOp]
  simp [Op.equal, Op.maxDepth, run_equalIn_arr w 9998 t e k n ht he hsz f g]
theorem run_neq_arr {P : Program} (w : World) (t e : TypeId) (k : IntKind) (n : Nat) (ht : P.underlying t = some (.array n e)) (he : P.underlying e = some (.int k)) (hsz : ∀ w, (sizeOf e).run P w = .ok 1 w)
    (f g : Nat → Int) : (binOp .neq t (.agg (arr k n f)) (.agg (arr k n g))).run P w = .ok (.bool (!sameI n f g)) w := by
  simp only [binOp]
  simp [Op.equal, Op.maxDepth, run_equalIn_arr w 9998 t e k n ht he hsz f g]
end Go.Proofs.Ythedopnhhanknaa
namespace Go.Proofs.Ythedopnhhanknaa
open Go.RowKit

/-- The slice of n at A reads as the list l, all of it below block B. -/
def Nums (k : IntKind) (w : World) (B : Nat) (A : Option Addr) (n : Nat) (l : List Int) : Prop :=
  l.length = n ∧ ∀ i u, l[i]? = some u → ∃ a, A = some a ∧ a.block < B ∧ w.cell? (a.add i) = some (.int k u)
/-- The slice is the call's own, from block base on, and reads as l. -/
def Own (k : IntKind) (e : TypeId) (w : World) (base : Nat) (A : Option Addr) (n c : Nat) (l : List Int) : Prop :=
  l.length = n ∧ w.ownsRow base e 1 (.slice A n c) n (l.map (Value.int k))

theorem addr_block (a : Addr) (n : Nat) : (a.add n).block = a.block := by unfold Addr.add; split <;> rfl
theorem addr_add (a : Addr) (i j : Nat) : (a.add i).add j = a.add (i + j) := by
  unfold Addr.add
  by_cases hi : i = 0 <;> by_cases hj : j = 0 <;> simp [hi, hj, Nat.add_assoc]

section
variable {k : IntKind} {w w' : World} {B B' n : Nat} {A : Option Addr} {l : List Int}
theorem Nums.len (h : Nums k w B A n l) : l.length = n := h.1
theorem Nums.none_ : Nums k w B A 0 [] := ⟨rfl, fun i u h => by simp at h⟩
theorem Nums.at_ (h : Nums k w B A n l) {i : Nat} (hi : i < l.length) : ∃ a, A = some a ∧ a.block < B ∧ w.cell? (a.add i) = some (.int k l[i]) :=
  h.2 i _ (List.getElem?_eq_getElem hi)
theorem Nums.keep (h : Nums k w B A n l) (hk : ∀ p : Addr, p.block < B → w'.cell? p = w.cell? p) : Nums k w' B A n l :=
  ⟨h.1, fun i u hu => by
    obtain ⟨a, e, hb, hc⟩ := h.2 i u hu
    exact ⟨a, e, hb, (hk _ (by rw [addr_block]; exact hb)).trans hc⟩⟩
theorem Nums.below (h : Nums k w B A n l) (hb : Below B w w') : Nums k w' B A n l := h.keep fun _ hp => hb.cell hp
theorem Nums.belowL (h : Nums k w B A n l) (hb : Below B' w w') (hB : B ≤ B') : Nums k w' B A n l := h.below (hb.mono hB)
theorem Nums.more (h : Nums k w B A n l) (hB : B ≤ B') : Nums k w B' A n l :=
  ⟨h.1, fun i u hu => by
    obtain ⟨a, e, hb, hc⟩ := h.2 i u hu
    exact ⟨a, e, by omega, hc⟩⟩
theorem Nums.drew (h : Nums k w B A n l) : Nums k w.drew B A n l := h
theorem Nums.drewN (h : Nums k w B A n l) (m : Nat) : Nums k (w.drewN m) B A n l := h
theorem Nums.alloc (h : Nums k w B A n l) (hB : B ≤ w.heap.size) (o : Obj) : Nums k (w.alloc o) B A n l := h.keep fun p hp => World.cell?_alloc_lt w o p (by omega)
theorem Nums.cut (h : Nums k w B A n l) {i c : Nat} (hi : i ≤ n) (hc : n ≤ c) : Nums k w B (if c = i then A else A.map (·.add (i * 1))) (n - i) (l.drop i) := by
  refine ⟨by rw [List.length_drop, h.1], fun j u hu => ?_⟩
  rw [List.getElem?_drop] at hu
  obtain ⟨a, rfl, hb, hcell⟩ := h.2 _ _ hu
  have hlt : i + j < l.length := (List.getElem?_eq_some_iff.1 hu).1
  have := h.1
  rw [if_neg (by omega)]
  exact ⟨a.add i, by simp, by rw [addr_block]; exact hb, by rw [addr_add]; exact hcell⟩
theorem Nums.first (h : Nums k w B A n l) {i : Nat} (hi : i ≤ n) : Nums k w B A i (l.take i) := by
  refine ⟨by rw [List.length_take, h.1]; omega, fun j u hu => ?_⟩
  rw [List.getElem?_take] at hu
  split at hu
  · exact h.2 j u hu
  · cases hu
theorem Nums.one (w : World) (k : IntKind) (x : Int) (t : TypeId) : Nums k (w.alloc (.cells #[.int k x] t)) (w.heap.size + 1) (some ⟨w.heap.size, 0, none⟩) 1 [x] := by
  refine ⟨rfl, fun i u hu => ⟨_, rfl, by simp, ?_⟩⟩
  exact cell_one_new w (.int k x) t i (.int k u) (by
    match i, hu with
    | 0, hu => simp at hu; simp [hu])
theorem Nums.byBlock (h : Nums k w B A n l) : Nums k w w.heap.size A n l :=
  ⟨h.1, fun i u hu => by
    obtain ⟨a, e, hb, hc⟩ := h.2 i u hu
    exact ⟨a, e, by have := World.block_lt_of_cell? w _ hc; rw [addr_block] at this; exact this, hc⟩⟩

theorem Nums.loads {P : Program} {a : Addr} (h : Nums k w B (some a) n l) : (loadCells a n).run P w = .ok (l.map (Value.int k)).toArray w := by
  have hh := run_loadCells_list (P := P) w a (l.map (Value.int k)) (fun j v hj => by
    rw [List.getElem?_map, Option.map_eq_some_iff] at hj
    obtain ⟨u, hu, rfl⟩ := hj
    obtain ⟨a', e, _, hc⟩ := h.2 j u hu
    injection e with e
    subst e
    exact hc)
  rw [List.length_map, h.1] at hh
  exact hh
end

/-- 'string(b)' of a slice of bytes, nil or not. -/
theorem run_string_of {P : Program} {w : World} {B n c : Nat} {A : Option Addr} {l : List Int} (h : Nums .u8 w B A n l) {src dst e : TypeId}
    (hs : P.underlying src = some (.slice e)) (he : P.underlying e = some (.int .u8)) (hd : P.underlying dst = some .string) :
    (convert src dst (.slice A n c)).run P w = .ok (.string (strOfNums l)) w := by
  rcases A with _ | a
  · have hl : l = [] := by
      cases l with
      | nil => rfl
      | cons x r => obtain ⟨a, e, _⟩ := h.2 0 x (by simp); cases e
    subst hl
    rw [run_convert_bytes_nil w src e hs he n c dst hd]
    rfl
  · rw [run_convert_bytes_string w src dst e _ n c hs he hd, run_bytesToString w a n c l (by exact h.loads), foldl_push_bytes]
    simp [strOfNums, ByteArray.empty, ByteArray.emptyWithCapacity]
    rfl

section
variable {k : IntKind} {e : TypeId} {w w' : World} {base n c : Nat} {A : Option Addr} {l : List Int}
theorem Own.len (h : Own k e w base A n c l) : l.length = n := h.1
theorem Own.nil (w : World) : Own k e w base none 0 0 [] := ⟨rfl, World.ownsRow_nil w base e 1⟩
theorem Own.cap (h : Own k e w base A n c l) : n ≤ c := by
  rcases h.2.2 with ⟨hv, hn⟩ | ⟨g, cap, cur, hv, _, _, hc, _⟩
  · omega
  · injection hv with h1 h2 h3; omega
theorem Own.capMax (h : Own k e w base A n c l) : c ≤ maxLen := by
  rcases h.2.2 with ⟨hv, hn⟩ | ⟨g, cap, cur, hv, _, _, _, hc, _⟩
  · injection hv with h1 h2 h3; omega
  · injection hv with h1 h2 h3; omega
theorem Own.nums (h : Own k e w base A n c l) : Nums k w w.heap.size A n l := by
  refine ⟨h.1, fun i u hu => ?_⟩
  have hlt : i < l.length := (List.getElem?_eq_some_iff.1 hu).1
  have := h.1
  rcases h.2.2 with ⟨hv, hn⟩ | ⟨g, cap, cur, hv, hb, hg, _⟩
  · omega
  · injection hv with h1 h2 h3
    subst h1
    refine ⟨_, rfl, (Array.getElem?_eq_some_iff.1 hg).1, ?_⟩
    exact h.2.cells (g := g) rfl i (.int k u) (by rw [List.getElem?_map, hu]; rfl)
theorem Own.drew (h : Own k e w base A n c l) : Own k e w.drew base A n c l := h
theorem Own.drewN (h : Own k e w base A n c l) (m : Nat) : Own k e (w.drewN m) base A n c l := h
theorem Own.alloc (h : Own k e w base A n c l) (o : Obj) : Own k e (w.alloc o) base A n c l := ⟨h.1, h.2.alloc o⟩
theorem Own.below (h : Own k e w base A n c l) {B : Nat} (hb : Below B w w') (hB : w.heap.size ≤ B) : Own k e w' base A n c l := by
  refine ⟨h.1, h.2.1, ?_⟩
  rcases h.2.2 with hv | ⟨g, cap, cur, hv, hbs, hg, rest⟩
  · exact .inl hv
  · exact .inr ⟨g, cap, cur, hv, hbs, by rw [hb.block g (by have := (Array.getElem?_eq_some_iff.1 hg).1; omega)]; exact hg, rest⟩
theorem Own.base_le (h : Own k e w base A n c l) {b : Nat} (hb : b ≤ base) : Own k e w b A n c l := by
  refine ⟨h.1, h.2.1, ?_⟩
  rcases h.2.2 with hv | ⟨g, cap, cur, hv, hbs, rest⟩
  · exact .inl hv
  · exact .inr ⟨g, cap, cur, hv, by omega, rest⟩
theorem Own.ownLt (h : Own k e w base A n c l) : ∀ g, (Value.slice A n c).ownBlock = some g → base ≤ g := fun g hg => (h.2.lt g hg).1
theorem Own.belowGrown (h : Own k e w base A n c l) {a : World} (hb : Below base a w) (hbase : base ≤ w.heap.size) (hg : w.grownBy w' (Value.slice A n c).ownBlock) : Below base a w' :=
  hb.grown hg hbase (fun g hh => h.ownLt g hh)
end

theorem run_app_nil {P : Program} (w : World) (base : Nat) (t ty e : TypeId) (i : TypeInfo) (ht : P.underlying t = some (.slice e)) (hi : P.info? e = some i)
    (v : Value) (n : Nat) (xs : List Value) (hown : w.ownsRow base e 1 v n xs) (c : Nat) : (Builtin.append_ #[t, t] ty #[v, .slice none 0 c]).run P w = .ok v w := by
  rcases hown.2 with ⟨rfl, rfl⟩ | ⟨g, cap, cur, rfl, _, _, hnc, _⟩
  · simp [Builtin.append_, run_underlying ht, sizeOf, typeInfo, hi, Builtin.lenOf, Builtin.firstCells]
  · simp [Builtin.append_, run_underlying ht, sizeOf, typeInfo, hi, Builtin.lenOf, Builtin.firstCells, hnc, storeCells]
theorem ints_one (k : IntKind) (l : List Int) : ∀ u ∈ l.map (Value.int k), u.oneCell' = true := by
  intro u hu; obtain ⟨n, _, rfl⟩ := List.mem_map.1 hu; rfl

/-- append of any slice of numbers to one of the call's own. -/
theorem run_app {P : Program} (w : World) (k : IntKind) (base : Nat) (t ty e : TypeId) (i : TypeInfo) (z : Value) (bytes : Nat) (ht : P.underlying t = some (.slice e)) (hi : P.info? e = some i) (hz : i.zero = some z)
    (hsize : i.size = 1) (hby : i.bytes = bytes) (hzs : z.cells.size = 1)
    {A : Option Addr} {n c : Nat} {l : List Int} (hown : Own k e w base A n c l) {B : Nat} {A2 : Option Addr} {m c2 : Nat} {l2 : List Int} (h2 : Nums k w B A2 m l2)
    (hsm : n + m ≤ 4294967296) (hb8 : bytes ≤ 8) (hbase : base ≤ w.heap.size) :
    ∃ A' c' w', (Builtin.append_ #[t, t] ty #[.slice A n c, .slice A2 m c2]).run P w = .ok (.slice A' (n + m) c') w' ∧ Own k e w' base A' (n + m) c' (l ++ l2) ∧ w.grownBy w' (Value.slice A n c).ownBlock := by
  have hlen : (l ++ l2).length = n + m := by rw [List.length_append, hown.1, h2.1]
  rcases A2 with _ | ad
  · have hl2 : l2 = [] := by
      cases l2 with
      | nil => rfl
      | cons x r => obtain ⟨a, e, _⟩ := h2.2 0 x (by simp); cases e
    subst hl2
    obtain rfl : m = 0 := by have := h2.1; simpa using this.symm
    exact ⟨A, c, w, run_app_nil w base t ty e i ht hi _ n _ hown.2 c2, by simpa using hown, World.grownBy.refl w _⟩
  · obtain ⟨v', w', hrun, h3, h4, _, _⟩ := run_append_own_at (P := P) w base t ty e i z 1 bytes ht hi hz hsize hby hzs (by omega) (.slice A n c) n (l.map (Value.int k)) hown.2 ad m c2 (l2.map (Value.int k))
      (by rw [List.length_map, h2.1]; omega)
      (fun j u hj => by
        rw [List.getElem?_map, Option.map_eq_some_iff] at hj
        obtain ⟨x, hx, rfl⟩ := hj
        obtain ⟨a, ea, _, hc⟩ := h2.2 j x hx
        injection ea with ea
        subst ea
        exact hc) (ints_one k l2) (by unfold maxLen; omega)
      (by have : (n + m) * bytes ≤ 4294967296 * 8 := Nat.mul_le_mul hsm hb8
          omega) hbase
    rw [← List.map_append] at h3
    rcases h3.2 with ⟨rfl, hn⟩ | ⟨g, cap, cur, rfl, rest⟩
    · rw [hn] at h3 ⊢
      refine ⟨none, 0, w', hrun, ⟨by omega, h3⟩, h4⟩
    · exact ⟨_, cap, w', hrun, ⟨hlen, h3⟩, h4⟩

theorem wpList_app {P : Program} {w : World} {ops : Array Oper} {rest : List Oper} {o : Oper} {a : Act} {Q : Exit → Act → World → Prop} (hgd : o.guard = none) (s x : Operand) (t : TypeId)
    (ho : o.op = .call { callee := .builtin .append, args := #[s, x], argTypes := #[t, t] })
    (k : IntKind) (base : Nat) (e : TypeId) (i : TypeInfo) (z : Value) (bytes : Nat) (ht : P.underlying t = some (.slice e)) (hi : P.info? e = some i) (hz : i.zero = some z)
    (hsize : i.size = 1) (hby : i.bytes = bytes) (hzs : z.cells.size = 1)
    (A : Option Addr) (n c : Nat) (l : List Int) (hs : a.eval s = .slice A n c) (hown : Own k e w base A n c l)
    (B : Nat) (A2 : Option Addr) (m c2 : Nat) (l2 : List Int) (hx : a.eval x = .slice A2 m c2) (h2 : Nums k w B A2 m l2)
    (hsm : n + m ≤ 4294967296) (hb8 : bytes ≤ 8) (hbase : base ≤ w.heap.size)
    (h : ∀ A' c' w', Own k e w' base A' (n + m) c' (l ++ l2) → w.grownBy w' (Value.slice A n c).ownBlock → wpList P ops Q rest (a.put o.dst (.slice A' (n + m) c')) w') :
    wpList P ops Q (o :: rest) a w := by
  refine wpList_plain hgd fun K hK => ?_
  obtain ⟨A', c', w', hr, h3, h4⟩ := run_app (P := P) w k base t o.type e i z bytes ht hi hz hsize hby hzs hown (c2 := c2) h2 hsm hb8 hbase
  unfold Oper.wp execOp
  simp only [ho, resolve, invoke, builtin, Sem.run_bind, Sem.run_pure, Result.andThen_ok, List.map_toArray, List.map_cons, List.map_nil, hs, hx, hr]
  exact hK _ _ (h A' c' w' h3 h4)

/-- make of no number, with room for N. -/
theorem wpList_mk {P : Program} (w : World) {ops : Array Oper} {rest : List Oper} {o : Oper} {a : Act} {Q : Exit → Act → World → Prop}
    (hg : o.guard = none) (l c : Operand) (t : TypeId) (hop : o.op = Op.makeSlice t l c)
    (k : IntKind) (base : Nat) (e : TypeId) (i : TypeInfo) (z : Value) (bytes : Nat) (h1 : P.underlying t = some (.slice e)) (h2 : P.info? e = some i) (h3 : i.zero = some z) (h4 : i.size = 1) (h5 : i.bytes = bytes)
    (kl kc : IntKind) (C : Int) (hl : a.eval l = .int kl 0) (hc : a.eval c = .int kc C) (hC0 : 0 ≤ C) (hC1 : C ≤ 4294967296) (hb8 : bytes ≤ 8) (hbase : base ≤ w.heap.size)
    (hK : ∀ w' g, Own k e w' base (some g) 0 C.toNat [] → w.grownBy w' none → wpList P ops Q rest (a.put o.dst (.slice (some g) 0 C.toNat)) w') :
    wpList P ops Q (o :: rest) a w := by
  obtain ⟨N, rfl⟩ := Int.eq_ofNat_of_zero_le hC0
  rw [Int.toNat_natCast] at hK
  have hb : i.bytes * N ≤ 281474976710656 := by
    rw [h5]
    have : bytes * N ≤ 8 * 4294967296 := Nat.mul_le_mul hb8 (by omega)
    omega
  exact wpList_make_own w hg l c t hop base e i z 1 h1 h2 h3 h4 kl kc N N hl hc rfl hb (by unfold maxLen; omega) hbase
    (fun w' r1 r2 => hK w' _ ⟨rfl, r1⟩ r2)

/-- 'b[i:]': somewhere, reading as what is left. -/
theorem cut_from {P : Program} {k : IntKind} {w : World} {B n c : Nat} {A : Option Addr} {l : List Int} (hN : Nums k w B A n l) (hc : n ≤ c) {i : Nat} (hi : i ≤ n) (t : TypeId) (ht : P.underlying t = some (.slice (P.elem t))) (hs : ∀ W, (sizeOf (P.elem t)).run P W = .ok 1 W) :
    ∃ A', (∀ W, (Instr.slice t (.slice A n c) (some (.int .i64 ((i : Nat) : Int))) none none).run P W = .ok (.slice A' (n - i) (c - i)) W) ∧ Nums k w B A' (n - i) (l.drop i) :=
  ⟨_, fun W => by
    rw [run_slice_l W t A n c ht .i64 (i : Int) (by omega) (by omega), hs]
    simp only [Result.andThen_ok, sliced, Int.toNat_natCast], hN.cut hi hc⟩
/-- 'b[:i]'. -/
theorem cut_to {P : Program} {k : IntKind} {w : World} {B n c : Nat} {A : Option Addr} {l : List Int} (hN : Nums k w B A n l) (hc : n ≤ c) {i : Nat} (hi : i ≤ n) (t : TypeId) (ht : P.underlying t = some (.slice (P.elem t))) (hs : ∀ W, (sizeOf (P.elem t)).run P W = .ok 1 W) :
    ∃ A', (∀ W, (Instr.slice t (.slice A n c) none (some (.int .i64 ((i : Nat) : Int))) none).run P W = .ok (.slice A' i c) W) ∧ Nums k w B A' i (l.take i) := by
  refine ⟨if c = 0 then A else A.map (·.add (0 * 1)), fun W => ?_, ?_⟩
  · rw [run_slice_h W t A n c ht .i64 (i : Int) (by omega) (by omega), hs]
    simp only [Result.andThen_ok, sliced, Int.toNat_natCast, Nat.sub_zero]
  · have h := (hN.cut (i := 0) (Nat.zero_le _) hc).first (show i ≤ n - 0 by omega)
    simpa using h
/-- '[]T{}'. -/
theorem own_empty {k : IntKind} {e : TypeId} (w : World) (base : Nat) (hb : base ≤ w.heap.size) : Own k e (w.alloc (.cells #[] e)) base (some ⟨w.heap.size, 0, none⟩) 0 0 [] :=
  ⟨rfl, World.ownsRow_made w #[] 0 hb (by unfold maxLen; omega) (by simp)⟩
end Go.Proofs.Ythedopnhhanknaa
namespace Go.Proofs.Ythedopnhhanknaa
open Go.RowKit
theorem keepB {a W w' : World} (h2 : Below W.heap.size W w') (h1 : Below a.heap.size a W) : Below a.heap.size a w' := h1.trans (h2.mono h1.size)
theorem below_drewN {B : Nat} {a w : World} (h : Below B a w) (n : Nat) : Below B a (w.drewN n) := ⟨h.os, h.tape, h.output, h.size, h.block⟩
theorem below_setRow {B : Nat} {a w : World} (h : Below B a w) (g : Nat) (cs : Array Value) (hg : B ≤ g) : Below B a (w.setRow g cs) :=
  h.trans ⟨rfl, rfl, rfl, by simp, fun k hk => setRow_other w g k cs (by omega)⟩
theorem i64_in {x : Int} (h0 : -9223372036854775808 ≤ x) (h1 : x ≤ 9223372036854775807) : IntKind.i64.wrap x = x := by
  simp only [IntKind.wrap, IntKind.bits, IntKind.signed]; simp; omega
end Go.Proofs.Ythedopnhhanknaa
namespace Go.Proofs.Ythedopnhhanknaa
open Go.RowKit
set_option maxRecDepth 100000
namespace Ex
/-- A state: objects, lists, the players' numbers one behind the other, the game's. -/
structure StT where
  objs : List (Nat → Int)
  lists : Nat → List Int
  pl : Nat → Int
  gm : Nat → Int
end Ex
open Ex
/-- Where a list lies. -/
structure SlT where
  A : Option Addr
  n : Nat
  c : Nat
def SlT.v (x : SlT) : Value := .slice x.A x.n x.c
/-- Eleven slices. -/
def sl11 (L : Nat → SlT) : Array Value := #[(L 0).v, (L 1).v, (L 2).v, (L 3).v, (L 4).v, (L 5).v, (L 6).v, (L 7).v, (L 8).v, (L 9).v, (L 10).v]
theorem sl11_size (L : Nat → SlT) : (sl11 L).size = 11 := rfl
theorem sl11_get (L : Nat → SlT) {z : Nat} (hz : z < 11) : (sl11 L)[z]? = some (L z).v := by
  match z, hz with
  | 0, _ => rfl
  | 1, _ => rfl
  | 2, _ => rfl
  | 3, _ => rfl
  | 4, _ => rfl
  | 5, _ => rfl
  | 6, _ => rfl
  | 7, _ => rfl
  | 8, _ => rfl
  | 9, _ => rfl
  | 10, _ => rfl
/-- A state's 37 cells. -/
def stC (O : SlT) (L : Nat → SlT) (p g : Nat → Int) : Array Value := #[O.v] ++ sl11 L ++ arr .i64 18 p ++ arr .i64 7 g
theorem stC_size (O : SlT) (L : Nat → SlT) (p g : Nat → Int) : (stC O L p g).size = 37 := by simp [stC, sl11_size, arr_size]
theorem stC_objs (O : SlT) (L : Nat → SlT) (p g : Nat → Int) : (stC O L p g)[0]? = some O.v := by
  unfold stC
  rw [Array.getElem?_append_left (by simp [sl11_size, arr_size]), Array.getElem?_append_left (by simp [sl11_size]), Array.getElem?_append_left (by simp)]
  rfl
theorem stC_list (O : SlT) (L : Nat → SlT) (p g : Nat → Int) {z : Nat} (hz : z < 11) : (stC O L p g)[1 + z]? = some (L z).v := by
  unfold stC
  rw [Array.getElem?_append_left (by simp [sl11_size, arr_size]; omega), Array.getElem?_append_left (by simp [sl11_size]; omega), Array.getElem?_append_right (by simp), ← sl11_get L hz]
  congr 1
  simp
theorem stC_pl (O : SlT) (L : Nat → SlT) (p g : Nat → Int) {i : Nat} (hi : i < 18) : (stC O L p g)[12 + i]? = some (.int .i64 (p i)) := by
  unfold stC
  rw [Array.getElem?_append_left (by simp [sl11_size, arr_size]; omega), Array.getElem?_append_right (by simp [sl11_size]), ← arr_get .i64 18 p hi]
  congr 1
  simp [sl11_size]
theorem stC_gm (O : SlT) (L : Nat → SlT) (p g : Nat → Int) {i : Nat} (hi : i < 7) : (stC O L p g)[30 + i]? = some (.int .i64 (g i)) := by
  unfold stC
  rw [Array.getElem?_append_right (by simp [sl11_size, arr_size]), ← arr_get .i64 7 g hi]
  congr 1
  simp [sl11_size, arr_size]
theorem stC_one (O : SlT) (L : Nat → SlT) (p g : Nat → Int) : (stC O L p g).all (·.oneCell') = true := by
  have h1 := arr_one .i64 18 p
  have h2 := arr_one .i64 7 g
  simp only [stC, Array.all_append, h1, h2]
  simp [sl11, SlT.v, Value.oneCell']
abbrev N64 (x : Int) : Prop := -9223372036854775808 ≤ x ∧ x ≤ 9223372036854775807
/-- Objects that stand one behind the other. -/
def RdO (B : Nat) (w : World) (A : Option Addr) (l : List (Nat → Int)) : Prop := ∀ (i : Nat) (o : Nat → Int), l[i]? = some o → ∃ b off, A = some ⟨b, off, none⟩ ∧ b < B ∧ w.rangeAt b (off + i * 18) (arr .i64 18 o).toList
/-- Thirty-seven cells read as a state. -/
structure ReadsS (B : Nat) (w : World) (cs : Array Value) (s : StT) (O : SlT) (L : Nat → SlT) : Prop where
  cs : cs = stC O L s.pl s.gm
  on : O.n = s.objs.length
  oc : O.n ≤ O.c
  om : O.c ≤ maxLen
  o : RdO B w O.A s.objs
  l : ∀ z < 11, Nums .i64 w B (L z).A (L z).n (s.lists z)
  lc : ∀ z < 11, (L z).n ≤ (L z).c
  ow : ∀ o ∈ s.objs, ∀ i < 18, N64 (o i)
  lw : ∀ z < 11, ∀ x ∈ s.lists z, N64 x
  pw : ∀ i < 18, N64 (s.pl i)
  gw : ∀ i < 7, N64 (s.gm i)
section
variable {B B' : Nat} {w w' : World} {cs : Array Value} {s : StT} {O : SlT} {L : Nat → SlT}
theorem range_below {b o : Nat} {vs : List Value} (hb : Below B w w') (hlt : b < B) (h : w.rangeAt b o vs) : w'.rangeAt b o vs := fun j v hv => (hb.cell (by simpa using hlt)).trans (h j v hv)
theorem RdO.below {A : Option Addr} {l : List (Nat → Int)} (h : RdO B w A l) (hb : Below B w w') : RdO B w' A l := fun i o hi => by
  obtain ⟨b, off, h1, h2, h3⟩ := h i o hi
  exact ⟨b, off, h1, h2, range_below hb h2 h3⟩
theorem RdO.more {A : Option Addr} {l : List (Nat → Int)} (h : RdO B w A l) (hB : B ≤ B') : RdO B' w A l := fun i o hi => by
  obtain ⟨b, off, h1, h2, h3⟩ := h i o hi
  exact ⟨b, off, h1, by omega, h3⟩
theorem ReadsS.below (h : ReadsS B w cs s O L) (hb : Below B w w') : ReadsS B w' cs s O L :=
  ⟨h.cs, h.on, h.oc, h.om, h.o.below hb, fun z hz => (h.l z hz).below hb, h.lc, h.ow, h.lw, h.pw, h.gw⟩
theorem ReadsS.more (h : ReadsS B w cs s O L) (hB : B ≤ B') : ReadsS B' w cs s O L :=
  ⟨h.cs, h.on, h.oc, h.om, h.o.more hB, fun z hz => (h.l z hz).more hB, h.lc, h.ow, h.lw, h.pw, h.gw⟩
theorem ReadsS.grow (h : ReadsS w.heap.size w cs s O L) (hb : Below w.heap.size w w') : ReadsS w'.heap.size w' cs s O L := (h.below hb).more hb.size
theorem ReadsS.size (h : ReadsS B w cs s O L) : cs.size = 37 := by rw [h.cs, stC_size]
theorem ReadsS.one (h : ReadsS B w cs s O L) : cs.all (·.oneCell') = true := by rw [h.cs]; exact stC_one _ _ _ _
end
theorem size37 : (Try.prog.info? 29).map (·.size) = some 37 := by kernel_rfl
theorem st_size18 : (Try.prog.info? 61).map (·.size) = some 18 := by kernel_rfl
/-- Block g is a state's box. -/
def StAt (w : World) (g : Nat) (cs : Array Value) : Prop := w.heap[g]? = some (.cells cs 29 (0, 0))
section
variable {w w' : World} {g : Nat} {cs : Array Value}
theorem StAt.new (w : World) (cs : Array Value) : StAt (w.alloc (.cells cs 29)) w.heap.size cs := heap_alloc_new _ _
theorem StAt.lt (h : StAt w g cs) : g < w.heap.size := (Array.getElem?_eq_some_iff.1 h).1
theorem StAt.keep (h : StAt w g cs) (hb : Below w.heap.size w w') : StAt w' g cs := (hb.block g h.lt).trans h
theorem StAt.cell (h : StAt w g cs) (i : Nat) : w.cell? ⟨g, i, none⟩ = cs[i]? := cell_of_row w g i cs 29 (0, 0) h
end
end Go.Proofs.Ythedopnhhanknaa
namespace Go.Proofs.Ythedopnhhanknaa
open Go.RowKit Ex
set_option maxRecDepth 100000
theorem st_zero18 : #[Value.int .i64 0, Value.int .i64 0, Value.int .i64 0, Value.int .i64 0, Value.int .i64 0, Value.int .i64 0, Value.int .i64 0, Value.int .i64 0, Value.int .i64 0, Value.int .i64 0, Value.int .i64 0, Value.int .i64 0, Value.int .i64 0, Value.int .i64 0, Value.int .i64 0, Value.int .i64 0, Value.int .i64 0, Value.int .i64 0] = arr .i64 18 (fun _ => 0) := (arr_zero .i64 18).symm
theorem load_obj {ops : Array Oper} {rest : List Oper} {op : Oper} {a : Act} {w : World} {Q : Exit → Act → World → Prop} (hgd : op.guard = none) (x : Operand) (ho : op.op = .load 61 x)
    (b o : Nat) (hx : a.eval x = .pointer (some ⟨b, o, none⟩)) (f : Nat → Int) (h : w.rangeAt b o (arr .i64 18 f).toList)
    (hK : wpList Try.prog ops Q rest (a.put op.dst (.agg (arr .i64 18 f))) w) : wpList Try.prog ops Q (op :: rest) a w := by
  refine wpList_load_mid hgd 61 x ho b o hx (arr .i64 18 f).toList _ h Try.underlying61 rfl (by rw [Array.length_toList, arr_size]; exact st_size18) ?_
  rw [Array.toArray_toList]
  exact hK
theorem RdO.at_ {B : Nat} {w : World} {A : Option Addr} {l : List (Nat → Int)} (h : RdO B w A l) {i : Nat} (hi : i < l.length) : ∃ b off, A = some ⟨b, off, none⟩ ∧ b < B ∧ w.rangeAt b (off + i * 18) (arr .i64 18 l[i]).toList :=
  h i _ (List.getElem?_eq_getElem hi)
/-- Block g is an object's box. -/
def ObAt (w : World) (g : Nat) (f : Nat → Int) : Prop := w.heap[g]? = some (.cells (arr .i64 18 f) 61 (0, 0))
theorem ob_box (wr : World) (f : Nat → Int) : ∃ w3, w3 = (wr.alloc (.cells (arr .i64 18 fun _ => 0) 61)).setRow wr.heap.size (arr .i64 18 f) ∧ ObAt w3 wr.heap.size f ∧ Below wr.heap.size wr w3 := by
  refine ⟨_, rfl, ?_, below_setRow ((Below.refl _ _).alloc (Nat.le_refl _) _) _ _ (Nat.le_refl _)⟩
  unfold ObAt
  exact setRow_heap _ _ _ _ _ _ (heap_alloc_new _ _)
theorem arr_box (n : Nat) (t : TypeId) (wr : World) (f : Nat → Int) : ∃ w3, w3 = (wr.alloc (.cells (arr .i64 n fun _ => 0) t)).setRow wr.heap.size (arr .i64 n f) ∧ ArrAt .i64 n t w3 wr.heap.size f ∧ Below wr.heap.size wr w3 := by
  refine ⟨_, rfl, ?_, below_setRow ((Below.refl _ _).alloc (Nat.le_refl _) _) _ _ (Nat.le_refl _)⟩
  unfold ArrAt
  exact setRow_heap _ _ _ _ _ _ (heap_alloc_new _ _)
theorem st_zero9 : #[Value.int .i64 0, Value.int .i64 0, Value.int .i64 0, Value.int .i64 0, Value.int .i64 0, Value.int .i64 0, Value.int .i64 0, Value.int .i64 0, Value.int .i64 0] = arr .i64 9 (fun _ => 0) := (arr_zero .i64 9).symm
theorem zero7 : #[Value.int .i64 0, Value.int .i64 0, Value.int .i64 0, Value.int .i64 0, Value.int .i64 0, Value.int .i64 0, Value.int .i64 0] = arr .i64 7 (fun _ => 0) := (arr_zero .i64 7).symm
theorem st_size9 : (Try.prog.info? 25).map (·.size) = some 9 := by kernel_rfl
theorem st_size7 : (Try.prog.info? 27).map (·.size) = some 7 := by kernel_rfl
theorem load_nine {ops : Array Oper} {rest : List Oper} {op : Oper} {a : Act} {w : World} {Q : Exit → Act → World → Prop} (hgd : op.guard = none) (x : Operand) (ho : op.op = .load 25 x)
    (b o : Nat) (hx : a.eval x = .pointer (some ⟨b, o, none⟩)) (f : Nat → Int) (h : w.rangeAt b o (arr .i64 9 f).toList)
    (hK : wpList Try.prog ops Q rest (a.put op.dst (.agg (arr .i64 9 f))) w) : wpList Try.prog ops Q (op :: rest) a w := by
  refine wpList_load_mid hgd 25 x ho b o hx (arr .i64 9 f).toList _ h Try.underlying25 rfl (by rw [Array.length_toList, arr_size]; exact st_size9) ?_
  rw [Array.toArray_toList]
  exact hK
theorem load_seven {ops : Array Oper} {rest : List Oper} {op : Oper} {a : Act} {w : World} {Q : Exit → Act → World → Prop} (hgd : op.guard = none) (x : Operand) (ho : op.op = .load 27 x)
    (b o : Nat) (hx : a.eval x = .pointer (some ⟨b, o, none⟩)) (f : Nat → Int) (h : w.rangeAt b o (arr .i64 7 f).toList)
    (hK : wpList Try.prog ops Q rest (a.put op.dst (.agg (arr .i64 7 f))) w) : wpList Try.prog ops Q (op :: rest) a w := by
  refine wpList_load_mid hgd 27 x ho b o hx (arr .i64 7 f).toList _ h Try.underlying27 rfl (by rw [Array.length_toList, arr_size]; exact st_size7) ?_
  rw [Array.toArray_toList]
  exact hK
theorem StAt.pl {w : World} {g : Nat} {O : SlT} {L : Nat → SlT} {p q : Nat → Int} (h : StAt w g (stC O L p q)) {j : Nat} (hj : j < 2) : w.rangeAt g (12 + j * 9) (arr .i64 9 fun i => p (j * 9 + i)).toList := fun i v hv => by
  have hi : i < 9 := by have := (List.getElem?_eq_some_iff.1 hv).1; rw [Array.length_toList, arr_size] at this; exact this
  rw [Array.getElem?_toList, arr_get .i64 9 _ hi] at hv
  rw [h.cell, show 12 + j * 9 + i = 12 + (j * 9 + i) by omega, stC_pl _ _ _ _ (by omega)]
  exact hv
theorem StAt.gm {w : World} {g : Nat} {O : SlT} {L : Nat → SlT} {p q : Nat → Int} (h : StAt w g (stC O L p q)) : w.rangeAt g 30 (arr .i64 7 q).toList := fun i v hv => by
  have hi : i < 7 := by have := (List.getElem?_eq_some_iff.1 hv).1; rw [Array.length_toList, arr_size] at this; exact this
  rw [Array.getElem?_toList, arr_get .i64 7 _ hi] at hv
  rw [h.cell, stC_gm _ _ _ _ hi]
  exact hv
theorem ReadsS.at_list {B : Nat} {w : World} {cs : Array Value} {s : StT} {O : SlT} {L : Nat → SlT} (h : ReadsS B w cs s O L) {z : Nat} (hz : z < 11) :
    ∃ A n c, cs[1 + z]? = some (.slice A n c) ∧ n ≤ c ∧ Nums .i64 w B A n (s.lists z) :=
  ⟨(L z).A, (L z).n, (L z).c, by rw [h.cs]; exact stC_list _ _ _ _ hz, h.lc z hz, h.l z hz⟩
end Go.Proofs.Ythedopnhhanknaa
namespace Go.Proofs.Ythedopnhhanknaa
open Go.RowKit Ex
set_option maxRecDepth 100000
def longS (s : StT) (most : Int) : Bool := decide (most < s.objs.length) || (List.range 11).any fun z => decide (most + 10 < ((s.lists z).length : Int))
theorem size11 : (Try.prog.info? 24).map (·.size) = some 11 := by kernel_rfl
theorem load_lists {ops : Array Oper} {rest : List Oper} {op : Oper} {a : Act} {w : World} {Q : Exit → Act → World → Prop} (hgd : op.guard = none) (x : Operand) (ho : op.op = .load 24 x)
    (b o : Nat) (hx : a.eval x = .pointer (some ⟨b, o, none⟩)) (xs : Array Value) (hs : xs.size = 11) (h : w.rangeAt b o xs.toList)
    (hK : wpList Try.prog ops Q rest (a.put op.dst (.agg xs)) w) : wpList Try.prog ops Q (op :: rest) a w := by
  refine wpList_load_mid hgd 24 x ho b o hx xs.toList _ h Try.underlying24 rfl (by rw [Array.length_toList, hs]; exact size11) ?_
  rw [Array.toArray_toList]
  exact hK
theorem StAt.ls {w : World} {g : Nat} {O : SlT} {L : Nat → SlT} {p q : Nat → Int} (h : StAt w g (stC O L p q)) : w.rangeAt g 1 (sl11 L).toList := fun i v hv => by
  have hi : i < 11 := by have := (List.getElem?_eq_some_iff.1 hv).1; rw [Array.length_toList, sl11_size] at this; exact this
  rw [Array.getElem?_toList, sl11_get L hi] at hv
  rw [h.cell, stC_list _ _ _ _ hi]
  exact hv
theorem index_list (L : Nat → SlT) : ∀ z : Nat, z < 11 → ∀ w, (Instr.index 24 (.agg (sl11 L)) (.int .i64 (z : Int))).run Try.prog w = .ok (L z).v w
  | 0, _, _ => by kernel_rfl
  | 1, _, _ => by kernel_rfl
  | 2, _, _ => by kernel_rfl
  | 3, _, _ => by kernel_rfl
  | 4, _, _ => by kernel_rfl
  | 5, _, _ => by kernel_rfl
  | 6, _, _ => by kernel_rfl
  | 7, _, _ => by kernel_rfl
  | 8, _, _ => by kernel_rfl
  | 9, _, _ => by kernel_rfl
  | 10, _, _ => by kernel_rfl
theorem sl11_at (L : Nat → SlT) {z : Nat} (hz : z < 11) : ∃ A n c, (∀ w, (Instr.index 24 (.agg (sl11 L)) (.int .i64 (z : Int))).run Try.prog w = .ok (.slice A n c) w) ∧ n = (L z).n := ⟨_, _, _, index_list L z hz, rfl⟩
def NotL (s : StT) (most : Nat) (z : Nat) : Prop := ∀ y, y < z → decide (((most : Int) + 10) < ((s.lists y).length : Int)) = false
theorem longS_list {s : StT} {most z : Nat} (hz : z < 11) (h : most + 10 < (s.lists z).length) : longS s most = true := by
  have : ((List.range 11).any fun z => decide ((most : Int) + 10 < ((s.lists z).length : Int))) = true := List.any_eq_true.2 ⟨z, List.mem_range.2 hz, by simp; omega⟩
  rw [longS, this, Bool.or_true]
theorem longS_not {s : StT} {most : Nat} (ho : ¬ most < s.objs.length) (h : NotL s most 11) : longS s most = false := by
  have : ((List.range 11).any fun z => decide ((most : Int) + 10 < ((s.lists z).length : Int))) = false := by
    rw [List.any_eq_false]
    intro z hz
    rw [h z (List.mem_range.1 hz)]; simp
  rw [longS, this]
  simp; omega
set_option maxRecDepth 100000 in
set_option maxHeartbeats 0 in
theorem long_any (s : StT) (O : SlT) (L : Nat → SlT) (cs : Array Value) (most : Nat) (w : World) (B : Nat) (h : ReadsS B w cs s O L) (hm : most ≤ 1000) :
    Calls Try.prog 8 #[.agg cs, .int .i64 (most : Int)] w fun e w' => e = .returned (.bool (longS s most)) ∧ Below w.heap.size w w' := by
  go_enter Try.func8, Try.ntmps8
  have hcs := h.cs
  have c0 : cs[0]? = some (.slice O.A O.n O.c) := by rw [hcs]; exact stC_objs _ _ _ _
  have hOn := h.on
  have H := Lib.hid h
  clear h
  obtain ⟨A, n, c⟩ := O
  simp only at c0 hOn
  subst hOn
  have HC := Lib.hid hcs
  clear hcs
  go_upto_region 1 with fail
  have hs0 : StAt (w.alloc (.cells cs 29)) w.heap.size cs := StAt.new _ _
  have hb0 : Below w.heap.size w (w.alloc (.cells cs 29)) := (Below.refl _ _).alloc (Nat.le_refl _) _
  obtain ⟨w1, hw1⟩ : ∃ w1, w1 = w.alloc (.cells cs 29) := ⟨_, rfl⟩
  rw [← hw1] at hs0 hb0 ⊢
  clear hw1
  have c1 := (hs0.cell 0).trans c0
  have hra := hs0
  rw [HC.out] at hra
  have hra := hra.ls
  by_cases h4 : most < s.objs.length
  · have d4 : decide ((most : Int) < (s.objs.length : Int)) = true := by simp; omega
    have hf := Lib.hid (show longS s most = true by simp [longS, h4])
    go_wp2_with fail
    go_ret
    exact ⟨congrArg (fun b => Ending.returned (Value.bool b)) hf.out.symm, hb0⟩
  have d4 : decide ((most : Int) < (s.objs.length : Int)) = false := by simp; omega
  go_upto_region 4 with (refine load_lists rfl (.tmp 12) rfl w.heap.size 1 rfl (sl11 L) (sl11_size L) hra ?_)
  have hg0 : NotL s most 0 := fun y hy => absurd hy (by omega)
  go_loopw [14] (fun i wr => ∃ z : Nat, i = .int .i64 ((z : Nat) : Int) ∧ z ≤ 11 ∧ NotL s most z ∧ Below w.heap.size w wr) (fun i _ => 11 - (intOf i).toNat)
  case atStart => exact ⟨0, rfl, by omega, hg0, hb0⟩
  case round =>
    clear hb0 hs0 hg0 c1
    obtain ⟨z, rfl, hz, hgz, hbr⟩ := hrel
    by_cases hlt : z < 11
    · have hd : decide ((z : Int) < 11) = true := by simp; omega
      obtain ⟨A2, n2, c2, hc2, hn2⟩ := sl11_at L hlt
      have hln := (H.out.l z hlt).len
      rw [← hn2] at hln
      clear hn2
      by_cases hq : most + 10 < n2
      · have dq : decide ((most : Int) + 10 < (n2 : Int)) = true := by simp; omega
        have hf := Lib.hid (longS_list hlt (hln.symm ▸ hq))
        go_wp2_with fail
        go_ret
        exact ⟨congrArg (fun b => Ending.returned (Value.bool b)) hf.out.symm, hbr⟩
      · have dq : decide ((most : Int) + 10 < (n2 : Int)) = false := by simp; omega
        have hgz2 : NotL s most (z + 1) := fun y hy => by
          by_cases e : y = z
          · subst e; rw [hln]; exact dq
          · exact hgz y (by omega)
        go_wp2_with fail
        go_roundw
        case rel => exact ⟨z + 1, by go_num, by omega, hgz2, hbr⟩
        case measure => simp [intOf]; omega
    · obtain rfl : z = 11 := by omega
      have hf := Lib.hid (longS_not h4 hgz)
      go_wp2_with fail
      go_ret
      exact ⟨congrArg (fun b => Ending.returned (Value.bool b)) hf.out.symm, hbr⟩
end Go.Proofs.Ythedopnhhanknaa
namespace Go.Proofs.Ythedopnhhanknaa
open Go.RowKit Ex
set_option maxRecDepth 100000
/-- Nil eleven times, and zeros. -/
def nilS : SlT := ⟨none, 0, 0⟩
def st0 : Array Value := stC nilS (fun _ => nilS) (fun _ => 0) (fun _ => 0)
def sT0 : StT := ⟨[], fun _ => [], fun _ => 0, fun _ => 0⟩
theorem reads_0 (B : Nat) (w : World) : ReadsS B w st0 sT0 nilS (fun _ => nilS) :=
  ⟨rfl, rfl, Nat.le_refl _, by simp [nilS], fun i o hi => by simp [sT0] at hi, fun z _ => Nums.none_, fun z _ => Nat.le_refl _, fun o ho => by simp [sT0] at ho, fun z _ x hx => by simp [sT0] at hx, fun i _ => by simp [N64, sT0], fun i _ => by simp [N64, sT0]⟩
theorem build0 (W : World) : (Instr.build 29 #[]).run Try.prog W = .ok (.agg st0) W := by kernel_rfl
theorem st0_is : (Value.slice none 0 0 :: Value.slice none 0 0 :: Value.slice none 0 0 :: Value.slice none 0 0 :: Value.slice none 0 0 :: Value.slice none 0 0 :: Value.slice none 0 0 :: Value.slice none 0 0 :: Value.slice none 0 0 :: Value.slice none 0 0 :: Value.slice none 0 0 :: Value.slice none 0 0 :: Value.int .i64 0 :: Value.int .i64 0 :: Value.int .i64 0 :: Value.int .i64 0 :: Value.int .i64 0 :: Value.int .i64 0 :: Value.int .i64 0 :: Value.int .i64 0 :: Value.int .i64 0 :: Value.int .i64 0 :: Value.int .i64 0 :: Value.int .i64 0 :: Value.int .i64 0 :: Value.int .i64 0 :: Value.int .i64 0 :: Value.int .i64 0 :: Value.int .i64 0 :: Value.int .i64 0 :: Value.int .i64 0 :: Value.int .i64 0 :: Value.int .i64 0 :: Value.int .i64 0 :: Value.int .i64 0 :: Value.int .i64 0 :: Value.int .i64 0 :: []).toArray = st0 := by kernel_rfl
theorem wpList_build0 {ops : Array Oper} {rest : List Oper} {o : Oper} {a : Act} {w : World} {Q : Exit → Act → World → Prop} (hg : o.guard = none) (ho : o.op = .build 29 #[])
    (hK : wpList Try.prog ops Q rest (a.put o.dst (.agg st0)) w) : wpList Try.prog ops Q (o :: rest) a w := by
  refine wpList_plain hg fun K' hK' => ?_
  unfold Oper.wp
  simp [execOp, ho, build0, Result.andThen]
  exact hK' _ _ hK
theorem index_obj (f : Nat → Int) : ∀ i : Nat, i < 18 → ∀ w, (Instr.index 61 (.agg (arr .i64 18 f)) (.int .i64 (i : Int))).run Try.prog w = .ok (.int .i64 (f i)) w
  | 0, _, _ => by kernel_rfl
  | 1, _, _ => by kernel_rfl
  | 2, _, _ => by kernel_rfl
  | 3, _, _ => by kernel_rfl
  | 4, _, _ => by kernel_rfl
  | 5, _, _ => by kernel_rfl
  | 6, _, _ => by kernel_rfl
  | 7, _, _ => by kernel_rfl
  | 8, _, _ => by kernel_rfl
  | 9, _, _ => by kernel_rfl
  | 10, _, _ => by kernel_rfl
  | 11, _, _ => by kernel_rfl
  | 12, _, _ => by kernel_rfl
  | 13, _, _ => by kernel_rfl
  | 14, _, _ => by kernel_rfl
  | 15, _, _ => by kernel_rfl
  | 16, _, _ => by kernel_rfl
  | 17, _, _ => by kernel_rfl
  | _ + 18, h, _ => absurd h (by omega)
theorem index_nine (f : Nat → Int) : ∀ i : Nat, i < 9 → ∀ w, (Instr.index 25 (.agg (arr .i64 9 f)) (.int .i64 (i : Int))).run Try.prog w = .ok (.int .i64 (f i)) w
  | 0, _, _ => by kernel_rfl
  | 1, _, _ => by kernel_rfl
  | 2, _, _ => by kernel_rfl
  | 3, _, _ => by kernel_rfl
  | 4, _, _ => by kernel_rfl
  | 5, _, _ => by kernel_rfl
  | 6, _, _ => by kernel_rfl
  | 7, _, _ => by kernel_rfl
  | 8, _, _ => by kernel_rfl
  | _ + 9, h, _ => absurd h (by omega)
theorem index_seven (f : Nat → Int) : ∀ i : Nat, i < 7 → ∀ w, (Instr.index 27 (.agg (arr .i64 7 f)) (.int .i64 (i : Int))).run Try.prog w = .ok (.int .i64 (f i)) w
  | 0, _, _ => by kernel_rfl
  | 1, _, _ => by kernel_rfl
  | 2, _, _ => by kernel_rfl
  | 3, _, _ => by kernel_rfl
  | 4, _, _ => by kernel_rfl
  | 5, _, _ => by kernel_rfl
  | 6, _, _ => by kernel_rfl
  | _ + 7, h, _ => absurd h (by omega)
theorem index_two (f : Nat → Int) : ∀ i : Nat, i < 2 → ∀ w, (Instr.index 26 (.agg (arr .i64 18 f)) (.int .i64 (i : Int))).run Try.prog w = .ok (.agg (arr .i64 9 fun j => f (i * 9 + j))) w
  | 0, _, _ => by kernel_rfl
  | 1, _, _ => by kernel_rfl
  | _ + 2, h, _ => absurd h (by omega)
theorem size18p : (Try.prog.info? 26).map (·.size) = some 18 := by kernel_rfl
theorem load_two {ops : Array Oper} {rest : List Oper} {op : Oper} {a : Act} {w : World} {Q : Exit → Act → World → Prop} (hgd : op.guard = none) (x : Operand) (ho : op.op = .load 26 x)
    (b o : Nat) (hx : a.eval x = .pointer (some ⟨b, o, none⟩)) (f : Nat → Int) (h : w.rangeAt b o (arr .i64 18 f).toList)
    (hK : wpList Try.prog ops Q rest (a.put op.dst (.agg (arr .i64 18 f))) w) : wpList Try.prog ops Q (op :: rest) a w := by
  refine wpList_load_mid hgd 26 x ho b o hx (arr .i64 18 f).toList _ h Try.underlying26 rfl (by rw [Array.length_toList, arr_size]; exact size18p) ?_
  rw [Array.toArray_toList]
  exact hK
theorem StAt.two {w : World} {g : Nat} {O : SlT} {L : Nat → SlT} {p q : Nat → Int} (h : StAt w g (stC O L p q)) : w.rangeAt g 12 (arr .i64 18 p).toList := fun i v hv => by
  have hi : i < 18 := by have := (List.getElem?_eq_some_iff.1 hv).1; rw [Array.length_toList, arr_size] at this; exact this
  rw [Array.getElem?_toList, arr_get .i64 18 _ hi] at hv
  rw [h.cell, stC_pl _ _ _ _ hi]
  exact hv
theorem load_objW {ops : Array Oper} {rest : List Oper} {op : Oper} {a : Act} {w : World} {Q : Exit → Act → World → Prop} (hw : Region.wanted op (yielded ops a.tmps) = true) (x : Operand) (ho : op.op = .load 61 x)
    (b o : Nat) (hx : a.eval x = .pointer (some ⟨b, o, none⟩)) (f : Nat → Int) (h : w.rangeAt b o (arr .i64 18 f).toList)
    (hK : wpList Try.prog ops Q rest (a.put op.dst (.agg (arr .i64 18 f))) w) : wpList Try.prog ops Q (op :: rest) a w := by
  refine BigFrame.wpList_want hw fun _ hK' => wp_load_mid 61 x ho b o hx (arr .i64 18 f).toList _ h Try.underlying61 rfl (by rw [Array.length_toList, arr_size]; exact st_size18) (hK' _ _ ?_)
  rw [Array.toArray_toList]
  exact hK
theorem list_at {B : Nat} {w : World} {cs : Array Value} {s : StT} {O : SlT} {L : Nat → SlT} (h : ReadsS B w cs s O L) {z : Nat} (hz : z < 11) :
    ∃ A n c, (∀ w, (Instr.index 24 (.agg (sl11 L)) (.int .i64 (z : Int))).run Try.prog w = .ok (.slice A n c) w) ∧ n ≤ c ∧ Nums .i64 w B A n (s.lists z) := ⟨_, _, _, index_list L z hz, h.lc z hz, h.l z hz⟩
end Go.Proofs.Ythedopnhhanknaa
namespace Go.Proofs.Ythedopnhhanknaa
open Go.RowKit
/-- A list in blocks from base on, that may be written into. -/
def Mine (w : World) (base : Nat) (A : Option Addr) (n c : Nat) (l : List Int) : Prop :=
  Nums .i64 w w.heap.size A n l ∧ n ≤ c ∧ ∀ a, A = some a → ∃ g o cs t, a = ⟨g, o, none⟩ ∧ base ≤ g ∧ w.heap[g]? = some (.cells cs t (0, 0))
theorem Mine.of_own {w : World} {base : Nat} {A : Option Addr} {n c : Nat} {l : List Int} (h : Own .i64 3 w base A n c l) : Mine w base A n c l := by
  refine ⟨h.nums, h.cap, fun a ha => ?_⟩
  rcases h.2.2 with ⟨hv, _⟩ | ⟨g, cap, cur, hv, hb, hg, _⟩
  · injection hv with h1; rw [h1] at ha; cases ha
  · injection hv with h1
    rw [h1] at ha
    injection ha with ha
    exact ⟨g, 0, _, _, ha.symm, hb, hg⟩
theorem Mine.len {w : World} {base : Nat} {A : Option Addr} {n c : Nat} {l : List Int} (h : Mine w base A n c l) : l.length = n := h.1.len
theorem Mine.keep {w w' : World} {base : Nat} {A : Option Addr} {n c : Nat} {l : List Int} (h : Mine w base A n c l) (hb : Below w.heap.size w w') : Mine w' base A n c l := by
  refine ⟨(h.1.below hb).more hb.size, h.2.1, fun a ha => ?_⟩
  obtain ⟨g, o, cs, t, e, h1, h2⟩ := h.2.2 a ha
  exact ⟨g, o, cs, t, e, h1, (hb.block g (Array.getElem?_eq_some_iff.1 h2).1).trans h2⟩
/-- A number of it is written. -/
theorem Mine.set_ {w : World} {base g o n c : Nat} {l : List Int} (h : Mine w base (some ⟨g, o, none⟩) n c l) (i : Nat) (v : Int) : Mine (w.setCell ⟨g, o + i, none⟩ (.int .i64 v)) base (some ⟨g, o, none⟩) n c (l.set i v) := by
  obtain ⟨⟨hl, hN⟩, hc, hA⟩ := h
  obtain ⟨g', o', cs, t, e, h1, h2⟩ := hA _ rfl
  injection e with e1 e2
  subst e1 e2
  refine ⟨⟨by rw [List.length_set]; exact hl, fun j u hu => ⟨_, rfl, by simp [World.setCell]; exact (Array.getElem?_eq_some_iff.1 h2).1, ?_⟩⟩, hc, fun a ha => ⟨g, o, _, t, (Option.some.inj ha).symm, h1, heap_setCell_same w g (o + i) _ _ _ h2⟩⟩
  rw [Addr.add_mid]
  by_cases e : i = j
  · subst e
    have hj : i < l.length := by rw [← List.length_set (i := i) (a := v)]; exact (List.getElem?_eq_some_iff.1 hu).1
    rw [List.getElem?_set_self hj] at hu
    injection hu with hu
    subst hu
    obtain ⟨a, ea, _, hcell⟩ := hN i _ (List.getElem?_eq_getElem hj)
    injection ea with ea
    subst ea
    rw [Addr.add_mid] at hcell
    exact World.cell?_setCell_same (h := hcell) ..
  · rw [List.getElem?_set_ne e] at hu
    obtain ⟨a, ea, _, hcell⟩ := hN j u hu
    injection ea with ea
    subst ea
    rw [Addr.add_mid] at hcell
    rw [World.cell?_setCell_other (h := by intro h; injection h with h1 h2; omega)]
    exact hcell
theorem Mine.other {w : World} {base : Nat} {A : Option Addr} {n c : Nat} {l : List Int} (h : Mine w base A n c l) {g q : Nat} (hg : g < base) (v : Value) : Mine (w.setCell ⟨g, q, none⟩ v) base A n c l := by
  obtain ⟨⟨hl, hN⟩, hc, hA⟩ := h
  refine ⟨⟨hl, fun j u hu => ?_⟩, hc, fun a ha => ?_⟩
  · obtain ⟨a, ea, hb, hcell⟩ := hN j u hu
    obtain ⟨g', o', cs, t, e, h1, h2⟩ := hA a ea
    refine ⟨a, ea, by simpa [World.setCell] using hb, ?_⟩
    rw [World.cell?_setCell_other (h := by
      intro h
      have := congrArg Addr.block h
      rw [addr_block, e] at this
      simp at this
      omega)]
    exact hcell
  · obtain ⟨g', o', cs, t, e, h1, h2⟩ := hA a ha
    exact ⟨g', o', cs, t, e, h1, (heap_setCell_other w ⟨g, q, none⟩ g' v (by simp; omega)).trans h2⟩
/-- All of these blocks stay. -/
def MineA (w : World) (base : Nat) (A : Option Addr) : Prop := ∀ a, A = some a → ∃ g o cs t, a = ⟨g, o, none⟩ ∧ base ≤ g ∧ w.heap[g]? = some (.cells cs t (0, 0))
theorem MineA.stay {w w' : World} {base : Nat} {A : Option Addr} (h : MineA w base A) (hb : ∀ b, base ≤ b → b < w.heap.size → w'.heap[b]? = w.heap[b]?) : MineA w' base A := fun a ha => by
  obtain ⟨g, o, cs, t, e, h1, h2⟩ := h a ha
  exact ⟨g, o, cs, t, e, h1, (hb g h1 (Array.getElem?_eq_some_iff.1 h2).1).trans h2⟩
theorem MineA.base_le {w : World} {base b : Nat} {A : Option Addr} (h : MineA w base A) (hb : b ≤ base) : MineA w b A := fun a ha => by
  obtain ⟨g, o, cs, t, e, h1, h2⟩ := h a ha
  exact ⟨g, o, cs, t, e, by omega, h2⟩
theorem Mine.A {w : World} {base : Nat} {A : Option Addr} {n c : Nat} {l : List Int} (h : Mine w base A n c l) : MineA w base A := h.2.2
theorem Mine.stay {w w' : World} {base : Nat} {A : Option Addr} {n c : Nat} {l : List Int} (h : Mine w base A n c l) (hs : w.heap.size ≤ w'.heap.size) (hb : ∀ b, base ≤ b → b < w.heap.size → w'.heap[b]? = w.heap[b]?) : Mine w' base A n c l := by
  refine ⟨⟨h.1.1, fun i u hu => ?_⟩, h.2.1, MineA.stay h.A hb⟩
  obtain ⟨a, ea, h1, h2⟩ := h.1.2 i u hu
  obtain ⟨g, o, cs, t, e, h3, h4⟩ := h.2.2 a ea
  refine ⟨a, ea, by omega, ?_⟩
  have hg : (a.add i).block = g := by rw [addr_block, e]
  exact (World.cell?_of_block (by rw [hg]; exact hb g h3 (Array.getElem?_eq_some_iff.1 h4).1)).trans h2
end Go.Proofs.Ythedopnhhanknaa
namespace Go.Proofs.Ythedopnhhanknaa
open Go.RowKit Ex
set_option maxRecDepth 100000
/-- A list in blocks of the call's own. -/
structure SlR (W : World) (base : Nat) (x : SlT) (l : List Int) : Prop where
  N : Nums .i64 W W.heap.size x.A x.n l
  c : x.n ≤ x.c
  f : MineA W base x.A
/-- Objects in blocks of the call's own. -/
structure SlO (W : World) (base : Nat) (x : SlT) (l : List (Nat → Int)) : Prop where
  R : RdO W.heap.size W x.A l
  n : x.n = l.length
  c : x.n ≤ x.c
  m : x.c ≤ maxLen
  f : MineA W base x.A
section
variable {W W' : World} {base : Nat} {x : SlT}
theorem SlR.stay {l : List Int} (h : SlR W base x l) (hs : W.heap.size ≤ W'.heap.size) (hb : ∀ b, base ≤ b → W'.heap[b]? = W.heap[b]?) : SlR W' base x l := by
  refine ⟨⟨h.N.len, fun j u hu => ?_⟩, h.c, h.f.stay fun b h1 _ => hb b h1⟩
  obtain ⟨a, ea, h1, hcell⟩ := h.N.2 j u hu
  obtain ⟨g, o, cs, t, e, h3, h4⟩ := h.f a ea
  exact ⟨a, ea, by omega, (World.cell?_of_block (by rw [addr_block, e]; exact hb _ h3)).trans hcell⟩
theorem SlO.stay {l : List (Nat → Int)} (h : SlO W base x l) (hs : W.heap.size ≤ W'.heap.size) (hb : ∀ b, base ≤ b → W'.heap[b]? = W.heap[b]?) : SlO W' base x l := by
  refine ⟨fun j o ho => ?_, h.n, h.c, h.m, h.f.stay fun b h1 _ => hb b h1⟩
  obtain ⟨b, off, ea, h1, hra⟩ := h.R j o ho
  obtain ⟨g, o2, cs, t, e, h3, h4⟩ := h.f _ ea
  injection e with e1 e2
  subst e1
  exact ⟨b, off, ea, by omega, fun k u hu => (World.cell?_of_block (hb b h3)).trans (hra k u hu)⟩
theorem MineA.keep {w w' : World} {base : Nat} {A : Option Addr} (h : MineA w base A) (hb : Below w.heap.size w w') : MineA w' base A := h.stay fun b _ h2 => hb.block b h2
theorem SlR.keep {l : List Int} (h : SlR W base x l) (hb : Below W.heap.size W W') : SlR W' base x l := ⟨(h.N.below hb).more hb.size, h.c, h.f.keep hb⟩
theorem SlO.keep {l : List (Nat → Int)} (h : SlO W base x l) (hb : Below W.heap.size W W') : SlO W' base x l := ⟨(h.R.below hb).more hb.size, h.n, h.c, h.m, h.f.keep hb⟩
theorem SlR.set_ {l : List Int} (h : SlR W base x l) {g : Nat} (hg : g < base) (i : Nat) (v : Value) : SlR (W.setCell ⟨g, i, none⟩ v) base x l :=
  h.stay (by simp [World.setCell]) fun b hb => heap_setCell_other W ⟨g, i, none⟩ b v (by simp; omega)
theorem SlO.set_ {l : List (Nat → Int)} (h : SlO W base x l) {g : Nat} (hg : g < base) (i : Nat) (v : Value) : SlO (W.setCell ⟨g, i, none⟩ v) base x l :=
  h.stay (by simp [World.setCell]) fun b hb => heap_setCell_other W ⟨g, i, none⟩ b v (by simp; omega)
end
theorem Own.slR {w : World} {base n c : Nat} {A : Option Addr} {l : List Int} (h : Own .i64 3 w base A n c l) : SlR w base ⟨A, n, c⟩ l := ⟨h.nums, h.cap, (Mine.of_own h).A⟩
/-- All cells of objects. -/
def flatO (l : List (Nat → Int)) : List Value := l.flatMap fun o => (arr .i64 18 o).toList
theorem flatO_len (l : List (Nat → Int)) : (flatO l).length = l.length * 18 := by
  induction l with
  | nil => rfl
  | cons x l ih => simp only [flatO, List.flatMap_cons, List.length_append, Array.length_toList, arr_size, List.length_cons] at ih ⊢; omega
theorem flatO_at : ∀ {l : List (Nat → Int)} (i : Nat) (o : Nat → Int), l[i]? = some o → ∀ j v, (arr .i64 18 o).toList[j]? = some v → (flatO l)[i * 18 + j]? = some v
  | [], i, o, h, _, _, _ => by simp at h
  | x :: l, 0, o, h, j, v, hv => by
    simp at h; subst h
    simp only [flatO, List.flatMap_cons, Nat.zero_mul, Nat.zero_add]
    rw [List.getElem?_append_left (List.getElem?_eq_some_iff.1 hv).1]; exact hv
  | x :: l, i + 1, o, h, j, v, hv => by
    have ih := flatO_at (l := l) i o (by simpa using h) j v hv
    simp only [flatO, List.flatMap_cons] at ih ⊢
    rw [List.getElem?_append_right (by rw [Array.length_toList, arr_size]; omega), Array.length_toList, arr_size, show (i + 1) * 18 + j - 18 = i * 18 + j by omega]
    exact ih
theorem flatO_of {l : List (Nat → Int)} {j : Nat} {v : Value} (h : (flatO l)[j]? = some v) : ∃ o, l[j / 18]? = some o ∧ (arr .i64 18 o).toList[j % 18]? = some v := by
  have hj : j < l.length * 18 := by rw [← flatO_len]; exact (List.getElem?_eq_some_iff.1 h).1
  have hq : j / 18 < l.length := by omega
  refine ⟨l[j / 18], List.getElem?_eq_getElem hq, ?_⟩
  have hr : j % 18 < (arr .i64 18 l[j / 18]).toList.length := by rw [Array.length_toList, arr_size]; omega
  rw [List.getElem?_eq_getElem hr]
  have := flatO_at (j / 18) _ (List.getElem?_eq_getElem hq) (j % 18) _ (List.getElem?_eq_getElem hr)
  rw [show j / 18 * 18 + j % 18 = j by omega] at this
  exact this.symm.trans h
theorem flatO_one (l : List (Nat → Int)) : ∀ u ∈ flatO l, u.oneCell' = true := fun u hu => by
  obtain ⟨o, _, h⟩ := List.mem_flatMap.1 hu
  obtain ⟨i, hi, rfl⟩ := List.getElem_of_mem h
  have h1 := Array.all_eq_true'.1 (arr_one .i64 18 o) ((arr .i64 18 o).toList[i]) (by simp)
  exact h1
theorem info_obj : (Try.prog.info? 61).map (fun i => (i.zero, i.size, i.bytes)) = some (some (.agg (arr .i64 18 fun _ => 0)), 18, 144) := by kernel_rfl
theorem st_info_int : (Try.prog.info? 3).map (fun i => (i.zero, i.size, i.bytes)) = some (some (.int .i64 0), 1, 8) := by kernel_rfl
theorem slO_of_own {w : World} {base : Nat} {v : Value} {n : Nat} {l : List (Nat → Int)} (h : w.ownsRow base 61 18 v n (flatO l)) (hn : n = l.length) : ∃ A c, v = .slice A n c ∧ SlO w base ⟨A, n, c⟩ l := by
  have h' := h
  rcases h.2 with ⟨rfl, hz⟩ | ⟨g, cap, cur, rfl, hb, hg, hc, hm, _⟩
  · subst hz
    have hl : l = [] := List.length_eq_zero_iff.1 hn.symm
    subst hl
    exact ⟨none, 0, rfl, ⟨fun i o hi => by simp at hi, rfl, Nat.le_refl _, Nat.zero_le _, fun a ha => by cases ha⟩⟩
  · refine ⟨some ⟨g, 0, none⟩, cap, rfl, ⟨fun i o hi => ⟨g, 0, rfl, (Array.getElem?_eq_some_iff.1 hg).1, fun j u hu => ?_⟩, hn, hc, hm, ?_⟩⟩
    · have := h'.cells (g := g) rfl (i * 18 + j) u (flatO_at i o hi j u hu)
      rw [Addr.add_mid, ← Nat.add_assoc] at this
      exact this
    · exact fun a ha => ⟨g, 0, cur, _, (Option.some.inj ha).symm, hb, hg⟩
/-- append of any objects to none. -/
theorem wpList_appO {ops : Array Oper} {rest : List Oper} {o : Oper} {a : Act} {w : World} {Q : Exit → Act → World → Prop} (hgd : o.guard = none) (s x : Operand)
    (ho : o.op = .call { callee := .builtin .append, args := #[s, x], argTypes := #[22, 22] })
    (base : Nat) (A : Option Addr) (c : Nat) (hs : a.eval s = .slice A 0 c) (h : w.ownsRow base 61 18 (.slice A 0 c) 0 [])
    (B : Nat) (A2 : Option Addr) (m c2 : Nat) (l : List (Nat → Int)) (hx : a.eval x = .slice A2 m c2) (hr : RdO B w A2 l) (hl : m = l.length) (hn : m ≤ 1000000) (hbase : base ≤ w.heap.size)
    (hK : ∀ A' c' w', SlO w' base ⟨A', m, c'⟩ l → w.grownBy w' (Value.slice A 0 c).ownBlock → wpList Try.prog ops Q rest (a.put o.dst (.slice A' m c')) w') :
    wpList Try.prog ops Q (o :: rest) a w := by
  obtain ⟨i0, hi, hz0, hz1, hz2⟩ := info_parts info_obj
  rcases A2 with _ | ad
  · have hl0 : l = [] := by
      cases l with
      | nil => rfl
      | cons y r => obtain ⟨b, off, e, _⟩ := hr 0 y rfl; cases e
    subst hl0
    obtain rfl : m = 0 := hl
    have hrun : (Builtin.append_ #[22, 22] o.type #[.slice A 0 c, .slice none 0 c2]).run Try.prog w = .ok (.slice A 0 c) w := by
      rcases h.2 with ⟨hv, _⟩ | ⟨g, cap, cur, hv, _, _, hnc, _⟩
      · rw [hv]
        simp [Builtin.append_, run_underlying Try.underlying22, sizeOf, typeInfo, hi, Builtin.lenOf, Builtin.firstCells]
      · rw [hv]
        simp [Builtin.append_, run_underlying Try.underlying22, sizeOf, typeInfo, hi, Builtin.lenOf, Builtin.firstCells, hnc, storeCells]
    obtain ⟨A', c', e, hso⟩ := slO_of_own (l := []) h rfl
    injection e with e1 _ e3
    subst e1 e3
    refine wpList_plain hgd fun K hK' => ?_
    unfold Oper.wp execOp
    simp only [ho, resolve, invoke, builtin, Sem.run_bind, Sem.run_pure, Result.andThen_ok, List.map_toArray, List.map_cons, List.map_nil, hs, hx, hrun]
    exact hK' _ _ (hK A c w hso (World.grownBy.refl w _))
  · refine wpList_append_own_at w hgd s x 22 ho base 61 i0 _ 18 144 Try.underlying22 hi hz0 hz1 hz2 (show (arr .i64 18 fun _ => 0).size = 18 by rw [arr_size]) (by omega) _ 0 [] hs h ad m c2 (flatO l) hx (by rw [flatO_len, hl])
      (fun j u hj => ?_) (flatO_one l) (by unfold maxLen; omega) (by omega) hbase ?_
    · obtain ⟨o, h1, h2⟩ := flatO_of hj
      obtain ⟨b, off, ea, _, hra⟩ := hr _ _ h1
      injection ea with ea
      subst ea
      rw [Addr.add_mid, show off + j = off + j / 18 * 18 + j % 18 by omega]
      exact hra _ _ h2
    · intro v' w' hown hgr _ _
      rw [Nat.zero_add, List.nil_append] at hown
      obtain ⟨A', c', rfl, hso⟩ := slO_of_own hown hl
      exact hK A' c' w' hso hgr
theorem obj_nil (w : World) (base : Nat) : w.ownsRow base 61 18 (.slice none 0 0) 0 [] := World.ownsRow_nil w base _ 18
theorem obj_empty (w : World) (base : Nat) (hb : base ≤ w.heap.size) : (w.alloc (.cells #[] 61)).ownsRow base 61 18 (.slice (some ⟨w.heap.size, 0, none⟩) 0 0) 0 [] :=
  World.ownsRow_made w #[] 0 hb (by unfold maxLen; omega) (by simp)
/-- A list's place is written in a state's cells. -/
def updS (L : Nat → SlT) (z : Nat) (x : SlT) : Nat → SlT := fun i => if i = z then x else L i
theorem stC_set_objs (O x : SlT) (L : Nat → SlT) (p g : Nat → Int) : (stC O L p g).setIfInBounds 0 x.v = stC x L p g := by
  refine Array.ext (by simp [stC_size]) fun i h1 h2 => ?_
  rw [← Option.some_inj, ← Array.getElem?_eq_getElem, ← Array.getElem?_eq_getElem, Array.getElem?_setIfInBounds]
  have hi : i < 37 := by simpa [stC_size] using h2
  by_cases e : 0 = i
  · subst e; rw [if_pos rfl, stC_objs]; simp [stC_size]
  · rw [if_neg e]
    by_cases e2 : i < 12
    · obtain ⟨z, rfl⟩ : ∃ z, i = 1 + z := ⟨i - 1, by omega⟩
      rw [stC_list _ _ _ _ (by omega), stC_list _ _ _ _ (by omega)]
    · by_cases e3 : i < 30
      · obtain ⟨z, rfl⟩ : ∃ z, i = 12 + z := ⟨i - 12, by omega⟩
        rw [stC_pl _ _ _ _ (by omega), stC_pl _ _ _ _ (by omega)]
      · obtain ⟨z, rfl⟩ : ∃ z, i = 30 + z := ⟨i - 30, by omega⟩
        rw [stC_gm _ _ _ _ (by omega), stC_gm _ _ _ _ (by omega)]
theorem stC_set_list (O x : SlT) (L : Nat → SlT) (p g : Nat → Int) {z : Nat} (hz : z < 11) : (stC O L p g).setIfInBounds (1 + z) x.v = stC O (updS L z x) p g := by
  refine Array.ext (by simp [stC_size]) fun i h1 h2 => ?_
  rw [← Option.some_inj, ← Array.getElem?_eq_getElem, ← Array.getElem?_eq_getElem, Array.getElem?_setIfInBounds]
  have hi : i < 37 := by simpa [stC_size] using h2
  by_cases e : 1 + z = i
  · subst e; rw [if_pos rfl, stC_list _ _ _ _ hz]; simp [stC_size, updS]; omega
  · rw [if_neg e]
    by_cases e0 : i = 0
    · subst e0; rw [stC_objs, stC_objs]
    by_cases e2 : i < 12
    · obtain ⟨y, rfl⟩ : ∃ y, i = 1 + y := ⟨i - 1, by omega⟩
      rw [stC_list _ _ _ _ (by omega), stC_list _ _ _ _ (by omega), updS, if_neg (by omega)]
    · by_cases e3 : i < 30
      · obtain ⟨y, rfl⟩ : ∃ y, i = 12 + y := ⟨i - 12, by omega⟩
        rw [stC_pl _ _ _ _ (by omega), stC_pl _ _ _ _ (by omega)]
      · obtain ⟨y, rfl⟩ : ∃ y, i = 30 + y := ⟨i - 30, by omega⟩
        rw [stC_gm _ _ _ _ (by omega), stC_gm _ _ _ _ (by omega)]
theorem stC_set_pl (O : SlT) (L : Nat → SlT) (p g : Nat → Int) {j : Nat} (hj : j < 18) (x : Int) : (stC O L p g).setIfInBounds (12 + j) (.int .i64 x) = stC O L (updI p j x) g := by
  refine Array.ext (by simp [stC_size]) fun i h1 h2 => ?_
  rw [← Option.some_inj, ← Array.getElem?_eq_getElem, ← Array.getElem?_eq_getElem, Array.getElem?_setIfInBounds]
  have hi : i < 37 := by simpa [stC_size] using h2
  by_cases e : 12 + j = i
  · subst e; rw [if_pos rfl, stC_pl _ _ _ _ hj]; simp [stC_size, updI]; omega
  · rw [if_neg e]
    by_cases e0 : i = 0
    · subst e0; rw [stC_objs, stC_objs]
    by_cases e2 : i < 12
    · obtain ⟨y, rfl⟩ : ∃ y, i = 1 + y := ⟨i - 1, by omega⟩
      rw [stC_list _ _ _ _ (by omega), stC_list _ _ _ _ (by omega)]
    · by_cases e3 : i < 30
      · obtain ⟨y, rfl⟩ : ∃ y, i = 12 + y := ⟨i - 12, by omega⟩
        rw [stC_pl _ _ _ _ (by omega), stC_pl _ _ _ _ (by omega), updI, if_neg (by omega)]
      · obtain ⟨y, rfl⟩ : ∃ y, i = 30 + y := ⟨i - 30, by omega⟩
        rw [stC_gm _ _ _ _ (by omega), stC_gm _ _ _ _ (by omega)]
theorem stC_set_gm (O : SlT) (L : Nat → SlT) (p g : Nat → Int) {j : Nat} (hj : j < 7) (x : Int) : (stC O L p g).setIfInBounds (30 + j) (.int .i64 x) = stC O L p (updI g j x) := by
  refine Array.ext (by simp [stC_size]) fun i h1 h2 => ?_
  rw [← Option.some_inj, ← Array.getElem?_eq_getElem, ← Array.getElem?_eq_getElem, Array.getElem?_setIfInBounds]
  have hi : i < 37 := by simpa [stC_size] using h2
  by_cases e : 30 + j = i
  · subst e; rw [if_pos rfl, stC_gm _ _ _ _ hj]; simp [stC_size, updI]; omega
  · rw [if_neg e]
    by_cases e0 : i = 0
    · subst e0; rw [stC_objs, stC_objs]
    by_cases e2 : i < 12
    · obtain ⟨y, rfl⟩ : ∃ y, i = 1 + y := ⟨i - 1, by omega⟩
      rw [stC_list _ _ _ _ (by omega), stC_list _ _ _ _ (by omega)]
    · by_cases e3 : i < 30
      · obtain ⟨y, rfl⟩ : ∃ y, i = 12 + y := ⟨i - 12, by omega⟩
        rw [stC_pl _ _ _ _ (by omega), stC_pl _ _ _ _ (by omega)]
      · obtain ⟨y, rfl⟩ : ∃ y, i = 30 + y := ⟨i - 30, by omega⟩
        rw [stC_gm _ _ _ _ (by omega), stC_gm _ _ _ _ (by omega), updI, if_neg (by omega)]
theorem stC_congr (O : SlT) (L : Nat → SlT) {p p' q q' : Nat → Int} (h : ∀ i, i < 18 → p i = p' i) (h' : ∀ i, i < 7 → q i = q' i) : stC O L p q = stC O L p' q' := by
  unfold stC; rw [arr_congr h, arr_congr h']
/-- A box in the making: the first k lists are copied. -/
structure CpS (w : World) (g base : Nat) (s : StT) (L0 : Nat → SlT) (O : SlT) (L : Nat → SlT) (k : Nat) (W : World) : Prop where
  b : Below w.heap.size w W
  r : ∀ z, k ≤ z → L z = L0 z
  a : StAt W g (stC O L s.pl s.gm)
  o : SlO W base O s.objs
  l : ∀ z, z < k → SlR W base (L z) (s.lists z)
section
variable {w : World} {g base : Nat} {s : StT} {O : SlT} {L0 L : Nat → SlT} {k : Nat} {W W' : World}
theorem CpS.keep (h : CpS w g base s L0 O L k W) (hb : Below W.heap.size W W') : CpS w g base s L0 O L k W' := ⟨keepB hb h.b, h.r, h.a.keep hb, h.o.keep hb, fun z hz => (h.l z hz).keep hb⟩
theorem CpS.next (h : CpS w g base s L0 O L k W) (hk : k < 11) (hwg : w.heap.size ≤ g) (hg : g < base) {x : SlT} (hx : SlR W base x (s.lists k)) : CpS w g base s L0 O (updS L k x) (k + 1) (W.setCell ⟨g, 1 + k, none⟩ x.v) := by
  refine ⟨h.b.setCell (by simpa using hwg) _, fun z hz => (if_neg (by omega)).trans (h.r z (by omega)), ?_, h.o.set_ hg _ _, fun z hz => ?_⟩
  · unfold StAt
    rw [heap_setCell_same W g (1 + k) _ _ _ h.a, stC_set_list _ _ _ _ _ hk]
  · by_cases e : z = k
    · subst e; simp only [updS, if_pos]; exact hx.set_ hg _ _
    · simp only [updS, if_neg e]; exact (h.l z (by omega)).set_ hg _ _
theorem CpS.start {O1 : SlT} (hb : Below w.heap.size w W) (ha : StAt W g (stC O1 L0 s.pl s.gm)) (hwg : w.heap.size ≤ g) (hg : g < base) (ho : SlO W base O s.objs) : CpS w g base s L0 O L0 0 (W.setCell ⟨g, 0, none⟩ O.v) := by
  refine ⟨hb.setCell (by simpa using hwg) _, fun _ _ => rfl, ?_, ho.set_ hg _ _, fun z hz => absurd hz (by omega)⟩
  unfold StAt
  rw [heap_setCell_same W g 0 _ _ _ ha, stC_set_objs]
end
/-- What a copy answers: the same state, in blocks of its own. -/
def CopyR (w : World) (s : StT) (cs : Array Value) (W : World) : Prop := ∃ O L, ReadsS W.heap.size W cs s O L ∧ MineA W w.heap.size O.A ∧ (∀ z < 11, MineA W w.heap.size (L z).A) ∧ Below w.heap.size w W
theorem CpS.copy {w : World} {g base : Nat} {s : StT} {O : SlT} {L0 L : Nat → SlT} {W : World} (h : CpS w g base s L0 O L 11 W) (hR : ∀ o ∈ s.objs, ∀ i < 18, N64 (o i)) (hl : ∀ z < 11, ∀ x ∈ s.lists z, N64 x) (hp : ∀ i < 18, N64 (s.pl i)) (hgm : ∀ i < 7, N64 (s.gm i))
    {r : Nat} (hr : w.heap.size ≤ r) (hrg : r < base) : CopyR w s (stC O L s.pl s.gm) (W.setRow r (stC O L s.pl s.gm)) := by
  have hb : ∀ b, base ≤ b → (W.setRow r (stC O L s.pl s.gm)).heap[b]? = W.heap[b]? := fun b hb => setRow_other W r b _ (by omega)
  have hs : W.heap.size ≤ (W.setRow r (stC O L s.pl s.gm)).heap.size := by simp
  have ho := h.o.stay hs hb
  have hls := fun z hz => (h.l z hz).stay hs hb
  exact ⟨O, L, ⟨rfl, ho.n, ho.c, ho.m, ho.R, fun z hz => (hls z hz).N, fun z hz => (hls z hz).c, hR, hl, hp, hgm⟩, ho.f.base_le (by omega), fun z hz => (hls z hz).f.base_le (by omega), below_setRow h.b r _ hr⟩
end Go.Proofs.Ythedopnhhanknaa
