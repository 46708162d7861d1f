/- Slices of numbers: which list one reads as; one of the call's own; append, make, string, a cut. Over any program. What all walks share: blocks that stand. Over any program. What holds of any memory: ranges, rows of a call's own. Arrays of numbers as values and in memory. Over any program. Layer 12: events as plain data. A region that draws its order, with calls that make memory: the condition on the world may be turned behind each call. Layer 12: the reference's Invert. Layer 13: lists of events in memory. Layer 10: a state as plain data, and how it reads in memory. Layer 10: an object within, loaded whole; a state's box. Layer 10: the laws' Long. Layer 10: a state's memory, read and written: what needs none of the code's calls. -/
import Derived.Below
import Derived.Laws.OwnMore
import Derived.Laws.BytesArg
import Derived.Maps.AppendAt
import Derived.Deep.Draws
import Derived.OwnWalk
import Derived.WalkKit
import Derived.Laws.Rows
import Derived.Test.YtmneajmedopheaaRows
import Derived.Deep.MidRow
import Derived.Laws.StructEq
import Derived.Laws.Entries
import Derived.WideShapes
import Derived.IntWalk
import Derived.Deep.Cut
import Derived.Deep.QuietTactic
import Derived.BigQuiet
import Derived.Lib.Hide
import Derived.WalkLawsBesides
import Derived.WalkSpells
import Derived.Deep.RegionHeld3
import Derived.WalkMore
namespace Go.Proofs.Ytmneajmedopheaa
open Go.RowKit

/-- The slice of n at A reads as the list l, all of it below block B. -/
def Nums (k : IntKind) (w : World) (B : Nat) (A : Option Addr) (n : Nat) (l : List Int) : Prop :=
  l.length = n ∧ ∀ i u, l[i]? = some u → ∃ a, A = some a ∧ a.block < B ∧ w.cell? (a.add i) = some (.int k u)
/-- The slice is the call's own, from block base on, and reads as l. -/
def Own (k : IntKind) (e : TypeId) (w : World) (base : Nat) (A : Option Addr) (n c : Nat) (l : List Int) : Prop :=
  l.length = n ∧ w.ownsRow base e 1 (.slice A n c) n (l.map (Value.int k))

theorem addr_block (a : Addr) (n : Nat) : (a.add n).block = a.block := by unfold Addr.add; split <;> rfl
theorem addr_add (a : Addr) (i j : Nat) : (a.add i).add j = a.add (i + j) := by
  unfold Addr.add
  by_cases hi : i = 0 <;> by_cases hj : j = 0 <;> simp [hi, hj, Nat.add_assoc]

section
variable {k : IntKind} {w w' : World} {B B' n : Nat} {A : Option Addr} {l : List Int}
theorem Nums.len (h : Nums k w B A n l) : l.length = n := h.1
theorem Nums.none_ : Nums k w B A 0 [] := ⟨rfl, fun i u h => by simp at h⟩
theorem Nums.at_ (h : Nums k w B A n l) {i : Nat} (hi : i < l.length) : ∃ a, A = some a ∧ a.block < B ∧ w.cell? (a.add i) = some (.int k l[i]) :=
  h.2 i _ (List.getElem?_eq_getElem hi)
theorem Nums.keep (h : Nums k w B A n l) (hk : ∀ p : Addr, p.block < B → w'.cell? p = w.cell? p) : Nums k w' B A n l :=
  ⟨h.1, fun i u hu => by
    obtain ⟨a, e, hb, hc⟩ := h.2 i u hu
    exact ⟨a, e, hb, (hk _ (by rw [addr_block]; exact hb)).trans hc⟩⟩
theorem Nums.below (h : Nums k w B A n l) (hb : Below B w w') : Nums k w' B A n l := h.keep fun _ hp => hb.cell hp
theorem Nums.belowL (h : Nums k w B A n l) (hb : Below B' w w') (hB : B ≤ B') : Nums k w' B A n l := h.below (hb.mono hB)
theorem Nums.more (h : Nums k w B A n l) (hB : B ≤ B') : Nums k w B' A n l :=
  ⟨h.1, fun i u hu => by
    obtain ⟨a, e, hb, hc⟩ := h.2 i u hu
    exact ⟨a, e, by omega, hc⟩⟩
theorem Nums.drew (h : Nums k w B A n l) : Nums k w.drew B A n l := h
theorem Nums.drewN (h : Nums k w B A n l) (m : Nat) : Nums k (w.drewN m) B A n l := h
theorem Nums.alloc (h : Nums k w B A n l) (hB : B ≤ w.heap.size) (o : Obj) : Nums k (w.alloc o) B A n l := h.keep fun p hp => World.cell?_alloc_lt w o p (by omega)
theorem Nums.cut (h : Nums k w B A n l) {i c : Nat} (hi : i ≤ n) (hc : n ≤ c) : Nums k w B (if c = i then A else A.map (·.add (i * 1))) (n - i) (l.drop i) := by
  refine ⟨by rw [List.length_drop, h.1], fun j u hu => ?_⟩
  rw [List.getElem?_drop] at hu
  obtain ⟨a, rfl, hb, hcell⟩ := h.2 _ _ hu
  have hlt : i + j < l.length := (List.getElem?_eq_some_iff.1 hu).1
  have := h.1
  rw [if_neg (by omega)]
  exact ⟨a.add i, by simp, by rw [addr_block]; exact hb, by rw [addr_add]; exact hcell⟩
theorem Nums.first (h : Nums k w B A n l) {i : Nat} (hi : i ≤ n) : Nums k w B A i (l.take i) := by
  refine ⟨by rw [List.length_take, h.1]; omega, fun j u hu => ?_⟩
  rw [List.getElem?_take] at hu
  split at hu
  · exact h.2 j u hu
  · cases hu
theorem Nums.one (w : World) (k : IntKind) (x : Int) (t : TypeId) : Nums k (w.alloc (.cells #[.int k x] t)) (w.heap.size + 1) (some ⟨w.heap.size, 0, none⟩) 1 [x] := by
  refine ⟨rfl, fun i u hu => ⟨_, rfl, by simp, ?_⟩⟩
  exact cell_one_new w (.int k x) t i (.int k u) (by
    match i, hu with
    | 0, hu => simp at hu; simp [hu])
theorem Nums.byBlock (h : Nums k w B A n l) : Nums k w w.heap.size A n l :=
  ⟨h.1, fun i u hu => by
    obtain ⟨a, e, hb, hc⟩ := h.2 i u hu
    exact ⟨a, e, by have := World.block_lt_of_cell? w _ hc; rw [addr_block] at this; exact this, hc⟩⟩

theorem Nums.loads {P : Program} {a : Addr} (h : Nums k w B (some a) n l) : (loadCells a n).run P w = .ok (l.map (Value.int k)).toArray w := by
  have hh := run_loadCells_list (P := P) w a (l.map (Value.int k)) (fun j v hj => by
    rw [List.getElem?_map, Option.map_eq_some_iff] at hj
    obtain ⟨u, hu, rfl⟩ := hj
    obtain ⟨a', e, _, hc⟩ := h.2 j u hu
    injection e with e
    subst e
    exact hc)
  rw [List.length_map, h.1] at hh
  exact hh
end

/-- 'string(b)' of a slice of bytes, nil or not. -/
theorem run_string_of {P : Program} {w : World} {B n c : Nat} {A : Option Addr} {l : List Int} (h : Nums .u8 w B A n l) {src dst e : TypeId}
    (hs : P.underlying src = some (.slice e)) (he : P.underlying e = some (.int .u8)) (hd : P.underlying dst = some .string) :
    (convert src dst (.slice A n c)).run P w = .ok (.string (strOfNums l)) w := by
  rcases A with _ | a
  · have hl : l = [] := by
      cases l with
      | nil => rfl
      | cons x r => obtain ⟨a, e, _⟩ := h.2 0 x (by simp); cases e
    subst hl
    rw [run_convert_bytes_nil w src e hs he n c dst hd]
    rfl
  · rw [run_convert_bytes_string w src dst e _ n c hs he hd, run_bytesToString w a n c l (by exact h.loads), foldl_push_bytes]
    simp [strOfNums, ByteArray.empty, ByteArray.emptyWithCapacity]
    rfl

section
variable {k : IntKind} {e : TypeId} {w w' : World} {base n c : Nat} {A : Option Addr} {l : List Int}
theorem Own.len (h : Own k e w base A n c l) : l.length = n := h.1
theorem Own.nil (w : World) : Own k e w base none 0 0 [] := ⟨rfl, World.ownsRow_nil w base e 1⟩
theorem Own.cap (h : Own k e w base A n c l) : n ≤ c := by
  rcases h.2.2 with ⟨hv, hn⟩ | ⟨g, cap, cur, hv, _, _, hc, _⟩
  · omega
  · injection hv with h1 h2 h3; omega
theorem Own.capMax (h : Own k e w base A n c l) : c ≤ maxLen := by
  rcases h.2.2 with ⟨hv, hn⟩ | ⟨g, cap, cur, hv, _, _, _, hc, _⟩
  · injection hv with h1 h2 h3; omega
  · injection hv with h1 h2 h3; omega
theorem Own.nums (h : Own k e w base A n c l) : Nums k w w.heap.size A n l := by
  refine ⟨h.1, fun i u hu => ?_⟩
  have hlt : i < l.length := (List.getElem?_eq_some_iff.1 hu).1
  have := h.1
  rcases h.2.2 with ⟨hv, hn⟩ | ⟨g, cap, cur, hv, hb, hg, _⟩
  · omega
  · injection hv with h1 h2 h3
    subst h1
    refine ⟨_, rfl, (Array.getElem?_eq_some_iff.1 hg).1, ?_⟩
    exact h.2.cells (g := g) rfl i (.int k u) (by rw [List.getElem?_map, hu]; rfl)
theorem Own.drew (h : Own k e w base A n c l) : Own k e w.drew base A n c l := h
theorem Own.drewN (h : Own k e w base A n c l) (m : Nat) : Own k e (w.drewN m) base A n c l := h
theorem Own.alloc (h : Own k e w base A n c l) (o : Obj) : Own k e (w.alloc o) base A n c l := ⟨h.1, h.2.alloc o⟩
theorem Own.below (h : Own k e w base A n c l) {B : Nat} (hb : Below B w w') (hB : w.heap.size ≤ B) : Own k e w' base A n c l := by
  refine ⟨h.1, h.2.1, ?_⟩
  rcases h.2.2 with hv | ⟨g, cap, cur, hv, hbs, hg, rest⟩
  · exact .inl hv
  · exact .inr ⟨g, cap, cur, hv, hbs, by rw [hb.block g (by have := (Array.getElem?_eq_some_iff.1 hg).1; omega)]; exact hg, rest⟩
theorem Own.base_le (h : Own k e w base A n c l) {b : Nat} (hb : b ≤ base) : Own k e w b A n c l := by
  refine ⟨h.1, h.2.1, ?_⟩
  rcases h.2.2 with hv | ⟨g, cap, cur, hv, hbs, rest⟩
  · exact .inl hv
  · exact .inr ⟨g, cap, cur, hv, by omega, rest⟩
theorem Own.ownLt (h : Own k e w base A n c l) : ∀ g, (Value.slice A n c).ownBlock = some g → base ≤ g := fun g hg => (h.2.lt g hg).1
theorem Own.belowGrown (h : Own k e w base A n c l) {a : World} (hb : Below base a w) (hbase : base ≤ w.heap.size) (hg : w.grownBy w' (Value.slice A n c).ownBlock) : Below base a w' :=
  hb.grown hg hbase (fun g hh => h.ownLt g hh)
end

theorem run_app_nil {P : Program} (w : World) (base : Nat) (t ty e : TypeId) (i : TypeInfo) (ht : P.underlying t = some (.slice e)) (hi : P.info? e = some i)
    (v : Value) (n : Nat) (xs : List Value) (hown : w.ownsRow base e 1 v n xs) (c : Nat) : (Builtin.append_ #[t, t] ty #[v, .slice none 0 c]).run P w = .ok v w := by
  rcases hown.2 with ⟨rfl, rfl⟩ | ⟨g, cap, cur, rfl, _, _, hnc, _⟩
  · simp [Builtin.append_, run_underlying ht, sizeOf, typeInfo, hi, Builtin.lenOf, Builtin.firstCells]
  · simp [Builtin.append_, run_underlying ht, sizeOf, typeInfo, hi, Builtin.lenOf, Builtin.firstCells, hnc, storeCells]
theorem ints_one (k : IntKind) (l : List Int) : ∀ u ∈ l.map (Value.int k), u.oneCell' = true := by
  intro u hu; obtain ⟨n, _, rfl⟩ := List.mem_map.1 hu; rfl

/-- append of any slice of numbers to one of the call's own. -/
theorem run_app {P : Program} (w : World) (k : IntKind) (base : Nat) (t ty e : TypeId) (i : TypeInfo) (z : Value) (bytes : Nat) (ht : P.underlying t = some (.slice e)) (hi : P.info? e = some i) (hz : i.zero = some z)
    (hsize : i.size = 1) (hby : i.bytes = bytes) (hzs : z.cells.size = 1)
    {A : Option Addr} {n c : Nat} {l : List Int} (hown : Own k e w base A n c l) {B : Nat} {A2 : Option Addr} {m c2 : Nat} {l2 : List Int} (h2 : Nums k w B A2 m l2)
    (hsm : n + m ≤ 4294967296) (hb8 : bytes ≤ 8) (hbase : base ≤ w.heap.size) :
    ∃ A' c' w', (Builtin.append_ #[t, t] ty #[.slice A n c, .slice A2 m c2]).run P w = .ok (.slice A' (n + m) c') w' ∧ Own k e w' base A' (n + m) c' (l ++ l2) ∧ w.grownBy w' (Value.slice A n c).ownBlock := by
  have hlen : (l ++ l2).length = n + m := by rw [List.length_append, hown.1, h2.1]
  rcases A2 with _ | ad
  · have hl2 : l2 = [] := by
      cases l2 with
      | nil => rfl
      | cons x r => obtain ⟨a, e, _⟩ := h2.2 0 x (by simp); cases e
    subst hl2
    obtain rfl : m = 0 := by have := h2.1; simpa using this.symm
    exact ⟨A, c, w, run_app_nil w base t ty e i ht hi _ n _ hown.2 c2, by simpa using hown, World.grownBy.refl w _⟩
  · obtain ⟨v', w', hrun, h3, h4, _, _⟩ := run_append_own_at (P := P) w base t ty e i z 1 bytes ht hi hz hsize hby hzs (by omega) (.slice A n c) n (l.map (Value.int k)) hown.2 ad m c2 (l2.map (Value.int k))
      (by rw [List.length_map, h2.1]; omega)
      (fun j u hj => by
        rw [List.getElem?_map, Option.map_eq_some_iff] at hj
        obtain ⟨x, hx, rfl⟩ := hj
        obtain ⟨a, ea, _, hc⟩ := h2.2 j x hx
        injection ea with ea
        subst ea
        exact hc) (ints_one k l2) (by unfold maxLen; omega)
      (by have : (n + m) * bytes ≤ 4294967296 * 8 := Nat.mul_le_mul hsm hb8
          omega) hbase
    rw [← List.map_append] at h3
    rcases h3.2 with ⟨rfl, hn⟩ | ⟨g, cap, cur, rfl, rest⟩
    · rw [hn] at h3 ⊢
      refine ⟨none, 0, w', hrun, ⟨by omega, h3⟩, h4⟩
    · exact ⟨_, cap, w', hrun, ⟨hlen, h3⟩, h4⟩

theorem wpList_app {P : Program} {w : World} {ops : Array Oper} {rest : List Oper} {o : Oper} {a : Act} {Q : Exit → Act → World → Prop} (hgd : o.guard = none) (s x : Operand) (t : TypeId)
    (ho : o.op = .call { callee := .builtin .append, args := #[s, x], argTypes := #[t, t] })
    (k : IntKind) (base : Nat) (e : TypeId) (i : TypeInfo) (z : Value) (bytes : Nat) (ht : P.underlying t = some (.slice e)) (hi : P.info? e = some i) (hz : i.zero = some z)
    (hsize : i.size = 1) (hby : i.bytes = bytes) (hzs : z.cells.size = 1)
    (A : Option Addr) (n c : Nat) (l : List Int) (hs : a.eval s = .slice A n c) (hown : Own k e w base A n c l)
    (B : Nat) (A2 : Option Addr) (m c2 : Nat) (l2 : List Int) (hx : a.eval x = .slice A2 m c2) (h2 : Nums k w B A2 m l2)
    (hsm : n + m ≤ 4294967296) (hb8 : bytes ≤ 8) (hbase : base ≤ w.heap.size)
    (h : ∀ A' c' w', Own k e w' base A' (n + m) c' (l ++ l2) → w.grownBy w' (Value.slice A n c).ownBlock → wpList P ops Q rest (a.put o.dst (.slice A' (n + m) c')) w') :
    wpList P ops Q (o :: rest) a w := by
  refine wpList_plain hgd fun K hK => ?_
  obtain ⟨A', c', w', hr, h3, h4⟩ := run_app (P := P) w k base t o.type e i z bytes ht hi hz hsize hby hzs hown (c2 := c2) h2 hsm hb8 hbase
  unfold Oper.wp execOp
  simp only [ho, resolve, invoke, builtin, Sem.run_bind, Sem.run_pure, Result.andThen_ok, List.map_toArray, List.map_cons, List.map_nil, hs, hx, hr]
  exact hK _ _ (h A' c' w' h3 h4)

/-- make of no number, with room for N. -/
theorem wpList_mk {P : Program} (w : World) {ops : Array Oper} {rest : List Oper} {o : Oper} {a : Act} {Q : Exit → Act → World → Prop}
    (hg : o.guard = none) (l c : Operand) (t : TypeId) (hop : o.op = Op.makeSlice t l c)
    (k : IntKind) (base : Nat) (e : TypeId) (i : TypeInfo) (z : Value) (bytes : Nat) (h1 : P.underlying t = some (.slice e)) (h2 : P.info? e = some i) (h3 : i.zero = some z) (h4 : i.size = 1) (h5 : i.bytes = bytes)
    (kl kc : IntKind) (C : Int) (hl : a.eval l = .int kl 0) (hc : a.eval c = .int kc C) (hC0 : 0 ≤ C) (hC1 : C ≤ 4294967296) (hb8 : bytes ≤ 8) (hbase : base ≤ w.heap.size)
    (hK : ∀ w' g, Own k e w' base (some g) 0 C.toNat [] → w.grownBy w' none → wpList P ops Q rest (a.put o.dst (.slice (some g) 0 C.toNat)) w') :
    wpList P ops Q (o :: rest) a w := by
  obtain ⟨N, rfl⟩ := Int.eq_ofNat_of_zero_le hC0
  rw [Int.toNat_natCast] at hK
  have hb : i.bytes * N ≤ 281474976710656 := by
    rw [h5]
    have : bytes * N ≤ 8 * 4294967296 := Nat.mul_le_mul hb8 (by omega)
    omega
  exact wpList_make_own w hg l c t hop base e i z 1 h1 h2 h3 h4 kl kc N N hl hc rfl hb (by unfold maxLen; omega) hbase
    (fun w' r1 r2 => hK w' _ ⟨rfl, r1⟩ r2)

/-- 'b[i:]': somewhere, reading as what is left. -/
theorem cut_from {P : Program} {k : IntKind} {w : World} {B n c : Nat} {A : Option Addr} {l : List Int} (hN : Nums k w B A n l) (hc : n ≤ c) {i : Nat} (hi : i ≤ n) (t : TypeId) (ht : P.underlying t = some (.slice (P.elem t))) (hs : ∀ W, (sizeOf (P.elem t)).run P W = .ok 1 W) :
    ∃ A', (∀ W, (Instr.slice t (.slice A n c) (some (.int .i64 ((i : Nat) : Int))) none none).run P W = .ok (.slice A' (n - i) (c - i)) W) ∧ Nums k w B A' (n - i) (l.drop i) :=
  ⟨_, fun W => by
    rw [run_slice_l W t A n c ht .i64 (i : Int) (by omega) (by omega), hs]
    simp only [Result.andThen_ok, sliced, Int.toNat_natCast], hN.cut hi hc⟩
/-- 'b[:i]'. -/
theorem cut_to {P : Program} {k : IntKind} {w : World} {B n c : Nat} {A : Option Addr} {l : List Int} (hN : Nums k w B A n l) (hc : n ≤ c) {i : Nat} (hi : i ≤ n) (t : TypeId) (ht : P.underlying t = some (.slice (P.elem t))) (hs : ∀ W, (sizeOf (P.elem t)).run P W = .ok 1 W) :
    ∃ A', (∀ W, (Instr.slice t (.slice A n c) none (some (.int .i64 ((i : Nat) : Int))) none).run P W = .ok (.slice A' i c) W) ∧ Nums k w B A' i (l.take i) := by
  refine ⟨if c = 0 then A else A.map (·.add (0 * 1)), fun W => ?_, ?_⟩
  · rw [run_slice_h W t A n c ht .i64 (i : Int) (by omega) (by omega), hs]
    simp only [Result.andThen_ok, sliced, Int.toNat_natCast, Nat.sub_zero]
  · have h := (hN.cut (i := 0) (Nat.zero_le _) hc).first (show i ≤ n - 0 by omega)
    simpa using h
/-- '[]T{}'. -/
theorem own_empty {k : IntKind} {e : TypeId} (w : World) (base : Nat) (hb : base ≤ w.heap.size) : Own k e (w.alloc (.cells #[] e)) base (some ⟨w.heap.size, 0, none⟩) 0 0 [] :=
  ⟨rfl, World.ownsRow_made w #[] 0 hb (by unfold maxLen; omega) (by simp)⟩
end Go.Proofs.Ytmneajmedopheaa
namespace Go.Proofs.Ytmneajmedopheaa
open Go.RowKit
theorem keepB {a W w' : World} (h2 : Below W.heap.size W w') (h1 : Below a.heap.size a W) : Below a.heap.size a w' := h1.trans (h2.mono h1.size)
theorem below_drewN {B : Nat} {a w : World} (h : Below B a w) (n : Nat) : Below B a (w.drewN n) := ⟨h.os, h.tape, h.output, h.size, h.block⟩
theorem below_setRow {B : Nat} {a w : World} (h : Below B a w) (g : Nat) (cs : Array Value) (hg : B ≤ g) : Below B a (w.setRow g cs) :=
  h.trans ⟨rfl, rfl, rfl, by simp, fun k hk => setRow_other w g k cs (by omega)⟩
theorem i64_in {x : Int} (h0 : -9223372036854775808 ≤ x) (h1 : x ≤ 9223372036854775807) : IntKind.i64.wrap x = x := by
  simp only [IntKind.wrap, IntKind.bits, IntKind.signed]; simp; omega
end Go.Proofs.Ytmneajmedopheaa
namespace Go.Proofs.Ytmneajmedopheaa
open Go.RowKit
set_option maxRecDepth 100000
abbrev N64 (x : Int) : Prop := -9223372036854775808 ≤ x ∧ x ≤ 9223372036854775807
theorem range_below {B : Nat} {w w' : World} {b o : Nat} {vs : List Value} (hb : Below B w w') (hlt : b < B) (h : w.rangeAt b o vs) : w'.rangeAt b o vs := fun j v hv => (hb.cell (by simpa using hlt)).trans (h j v hv)
section
variable {W W' : World} {base : Nat}
theorem owns_keep {v : Value} {e : TypeId} {k n : Nat} {xs : List Value} (h : W.ownsRow base e k v n xs) (hb : ∀ j, v.ownBlock = some j → W'.heap[j]? = W.heap[j]?) : W'.ownsRow base e k v n xs := by
  refine ⟨h.1, ?_⟩
  rcases h.2 with hv | ⟨g, cap, cur, hv, hbs, hg, rest⟩
  · exact .inl hv
  · exact .inr ⟨g, cap, cur, hv, hbs, (hb g (by rw [hv]; rfl)).trans hg, rest⟩
end
theorem own_ty {W : World} {base k n : Nat} {e : TypeId} {v : Value} {xs : List Value} (h : W.ownsRow base e k v n xs) {j : Nat} (hj : v.ownBlock = some j) : base ≤ j ∧ ∃ cur, W.heap[j]? = some (.cells cur e (0, 0)) := by
  rcases h.2 with ⟨hv, _⟩ | ⟨g, cap, cur, hv, hb, hg, _⟩
  · rw [hv] at hj; cases hj
  · rw [hv] at hj
    injection hj with hj
    have hj : g = j := hj
    subst hj
    exact ⟨hb, cur, hg⟩
theorem ty_same {W : World} {j : Nat} {c1 c2 : Array Value} {t1 t2 : TypeId} {f1 f2 : Nat × Nat} (h1 : W.heap[j]? = some (.cells c1 t1 f1)) (h2 : W.heap[j]? = some (.cells c2 t2 f2)) : t1 = t2 := by
  rw [h1] at h2; injection h2 with h2; injection h2
/-- Where a list lies. -/
structure SlT where
  A : Option Addr
  n : Nat
  c : Nat
def SlT.v (x : SlT) : Value := .slice x.A x.n x.c
end Go.Proofs.Ytmneajmedopheaa
namespace Go.Proofs.Ytmneajmedopheaa
open Go.RowKit

/-- An array of n numbers. -/
def arr (k : IntKind) (n : Nat) (f : Nat → Int) : Array Value := (Array.range n).map fun i => Value.int k (f i)
/-- f, but for one place. -/
def updI (f : Nat → Int) (j : Nat) (x : Int) : Nat → Int := fun i => if i = j then x else f i
section
variable {k : IntKind} {n : Nat} {f g : Nat → Int}
theorem arr_size (k : IntKind) (n : Nat) (f : Nat → Int) : (arr k n f).size = n := by simp [arr]
theorem arr_get (k : IntKind) (n : Nat) (f : Nat → Int) {i : Nat} (h : i < n) : (arr k n f)[i]? = some (.int k (f i)) := by simp [arr, h]
theorem arr_congr (h : ∀ i, i < n → f i = g i) : arr k n f = arr k n g := by
  apply Array.ext
  · simp [arr]
  · intro i h1 h2
    simp [arr] at h1
    simp [arr, h i h1]
theorem arr_set (k : IntKind) (n : Nat) (f : Nat → Int) (j : Nat) (x : Int) : (arr k n f).setIfInBounds j (.int k x) = arr k n (updI f j x) := by
  apply Array.ext
  · simp [arr]
  · intro i h1 h2
    simp [arr] at h1 h2
    rw [Array.getElem_setIfInBounds (by rw [arr_size]; exact h2)]
    by_cases e : j = i
    · subst e; simp [arr, updI]
    · simp [arr, updI, e, show ¬ i = j from fun h => e h.symm]
theorem arr_one (k : IntKind) (n : Nat) (f : Nat → Int) : (arr k n f).all (·.oneCell') = true := by
  rw [Array.all_eq_true]; intro i hi; simp [arr, Value.oneCell']
end

theorem arr_list (k : IntKind) (l : List Int) : arr k l.length (fun i => l.getD i 0) = (l.map (Value.int k)).toArray := by
  apply Array.ext
  · simp [arr]
  · intro i h1 h2
    simp [arr] at h1
    simp [arr, h1]
theorem arr_zero (k : IntKind) (n : Nat) : arr k n (fun _ => 0) = (List.replicate n (Value.int k 0)).toArray := by
  apply Array.ext
  · simp [arr]
  · intro i h1 h2
    simp [arr]
/-- A whole array, and one number, as results. -/
theorem results_cell_tmp {P : Program} {fn : Func} {p q : Tmp} {ty : TypeId} (h : fn.results = #[.cell p ty, .tmp q]) (tmps : Array Value) (w : World) (g : Nat) (t : TypeId) (cs : Array Value) (fr : Nat × Nat) (d : TypeDesc)
    (hp : tmps.getD p undef = .pointer (some ⟨g, 0, none⟩)) (hg : w.heap[g]? = some (.cells cs t fr))
    (hu : P.underlying ty = some d) (hd : (match d with | .struct _ | .array _ _ => true | _ => false) = true) (hi : (P.info? ty).map (·.size) = some cs.size) :
    (results fn tmps).run P w = .ok (.tuple #[.agg cs, tmps.getD q undef]) w := by
  have hp' : tmps[p]?.getD undef = .pointer (some ⟨g, 0, none⟩) := by simpa using hp
  simp [results, h, hp', asAddr, run_loadVar_row w g t ty cs fr d hg hu hd hi]
/-- Block g is an array of n numbers, f. -/
def ArrAt (k : IntKind) (n : Nat) (t : TypeId) (w : World) (g : Nat) (f : Nat → Int) : Prop := w.heap[g]? = some (.cells (arr k n f) t (0, 0))
section
variable {k : IntKind} {n : Nat} {t : TypeId} {w w' : World} {g : Nat} {f h : Nat → Int}
theorem ArrAt.lt (a : ArrAt k n t w g f) : g < w.heap.size := (Array.getElem?_eq_some_iff.1 a).1
theorem ArrAt.cell (a : ArrAt k n t w g f) {i : Nat} (hi : i < n) : w.cell? ⟨g, i, none⟩ = some (.int k (f i)) := by
  rw [cell_of_row w g i _ t (0, 0) a, arr_get k n f hi]
theorem ArrAt.frozen (a : ArrAt k n t w g f) (i : Nat) : w.frozen? ⟨g, i, none⟩ = false := frozen_of_row w g i _ t a
theorem ArrAt.new (w : World) (k : IntKind) (n : Nat) (t : TypeId) (f : Nat → Int) : ArrAt k n t (w.alloc (.cells (arr k n f) t)) w.heap.size f := heap_alloc_new w _
theorem ArrAt.congr (a : ArrAt k n t w g f) (e : ∀ i, i < n → f i = h i) : ArrAt k n t w g h := by unfold ArrAt at *; rw [a, arr_congr e]
theorem ArrAt.drew (a : ArrAt k n t w g f) : ArrAt k n t w.drew g f := a
theorem ArrAt.drewN (a : ArrAt k n t w g f) (m : Nat) : ArrAt k n t (w.drewN m) g f := a
theorem ArrAt.alloc (a : ArrAt k n t w g f) (o : Obj) : ArrAt k n t (w.alloc o) g f := (Below.heap_alloc w o g a.lt).trans a
theorem ArrAt.below (a : ArrAt k n t w g f) {B : Nat} (hb : Below B w w') (hg : g < B) : ArrAt k n t w' g f := (hb.block g hg).trans a
theorem ArrAt.keep (a : ArrAt k n t w g f) (hb : Below w.heap.size w w') : ArrAt k n t w' g f := a.below hb a.lt
theorem ArrAt.set_ (a : ArrAt k n t w g f) (j : Nat) (x : Int) : ArrAt k n t (w.setCell ⟨g, j, none⟩ (.int k x)) g (updI f j x) := by
  unfold ArrAt at *
  rw [heap_setCell_same w g j _ _ _ a, arr_set]
theorem ArrAt.far (a : ArrAt k n t w g f) {p : Addr} (hp : g ≠ p.block) (u : Value) : ArrAt k n t (w.setCell p u) g f := (Below.heap_setCell w p u g hp).trans a
theorem ArrAt.setRow (a : ArrAt k n t w g f) (h : Nat → Int) : ArrAt k n t (w.setRow g (arr k n h)) g h := setRow_heap w g _ _ _ _ a
theorem ArrAt.farRow (a : ArrAt k n t w g f) {g' : Nat} (hp : g ≠ g') (cs : Array Value) : ArrAt k n t (w.setRow g' cs) g f := (setRow_other w g' g cs hp).trans a
/-- A whole array is read. -/
theorem ArrAt.load {P : Program} (a : ArrAt k n t w g f) {ty : TypeId} {e : TypeId} {m : Nat} (hu : P.underlying ty = some (.array m e)) (hi : (P.info? ty).map (·.size) = some n) :
    (loadVar ty ⟨g, 0, none⟩).run P w = .ok (.agg (arr k n f)) w :=
  run_loadVar_row w g t ty _ _ _ a hu rfl (by rw [hi, arr_size])
theorem yieldsIf_load {P : Program} {ops : Array Oper} {S : World → Prop} {op : Oper} {a : Act} (hw : Region.wanted op (yielded ops a.tmps) = true) (ty : TypeId) (x : Operand) (ho : op.op = .load ty x)
    (g : Nat) (hx : a.eval x = .pointer (some ⟨g, 0, none⟩)) {k : IntKind} {n : Nat} {t : TypeId} {f : Nat → Int} (hS : ∀ w, S w → ArrAt k n t w g f) {e : TypeId} {m : Nat}
    (hu : P.underlying ty = some (.array m e)) (hi : (P.info? ty).map (·.size) = some n) : YieldsIf P ops S op (.agg (arr k n f)) a :=
  .inl ⟨hw, fun w hw' => by
    unfold execOp
    simp only [ho, hx, Instr.loadAt, Instr.sureAddr, Sem.run_bind, Sem.run_pure, Result.andThen_ok, (hS w hw').load hu hi]⟩
end

/-- Are two arrays the same? -/
def sameI (n : Nat) (f g : Nat → Int) : Bool := (List.range n).all fun i => f i == g i
theorem sameI_iff {n : Nat} {f g : Nat → Int} : sameI n f g = true ↔ ∀ i, i < n → f i = g i := by simp [sameI]
theorem sameI_refl (n : Nat) (f : Nat → Int) : sameI n f f = true := sameI_iff.2 fun _ _ => rfl
theorem run_equalIn_arr {P : Program} (w : World) (d : Nat) (t e : TypeId) (k : IntKind) (n : Nat) (ht : P.underlying t = some (.array n e)) (he : P.underlying e = some (.int k)) (hsz : ∀ w, (sizeOf e).run P w = .ok 1 w)
    (f g : Nat → Int) : (Op.equalIn (d + 2) t (.agg (arr k n f)) (.agg (arr k n g))).run P w = .ok (sameI n f g) w := by
  unfold sameI
  rw [List.range_eq_range', Op.equalIn]
  simp only [Sem.run_bind, run_underlying ht, Result.andThen_ok, hsz, Std.Legacy.Range.forIn_eq_forIn_range', Std.Legacy.Range.size, Nat.sub_zero, Nat.add_sub_cancel, Nat.div_one]
  have hl : ∀ i ∈ List.range' 0 n 1, i < n := fun i hi => by simpa using (List.mem_range'_1.1 hi).2
  generalize List.range' 0 n 1 = l at hl ⊢
  induction l with
  | nil => simp
  | cons i l ih =>
    have hi : i < n := hl i (by simp)
    have px : ∀ f : Nat → Int, (part e (arr k n f) (i * 1)).run P w = .ok (.int k (f i)) w := fun f => by
      simp [part, isAgg, run_underlying he, arr, hi]
    have pe : (Op.equalIn (d + 1) e (.int k (f i)) (.int k (g i))).run P w = .ok (f i == g i) w := run_equalIn_int w d e k k _ _ he
    simp only [List.forIn_cons, Sem.run_bind, px, pe, Result.andThen_ok, List.all_cons]
    cases hb : (f i == g i)
    · simp
    · simp only [Bool.not_true, Bool.false_eq_true, if_false, Sem.run_pure, Result.andThen_ok, Bool.true_and]
      exact ih fun j hj => hl j (by simp [hj])
theorem run_eql_arr {P : Program} (w : World) (t e : TypeId) (k : IntKind) (n : Nat) (ht : P.underlying t = some (.array n e)) (he : P.underlying e = some (.int k)) (hsz : ∀ w, (sizeOf e).run P w = .ok 1 w)
    (f g : Nat → Int) : (binOp .eql t (.agg (arr k n f)) (.agg (arr k n g))).run P w = .ok (.bool (sameI n f g)) w := by
  simp only [binOp]
  simp [Op.equal, Op.maxDepth, run_equalIn_arr w 9998 t e k n ht he hsz f g]
theorem run_neq_arr {P : Program} (w : World) (t e : TypeId) (k : IntKind) (n : Nat) (ht : P.underlying t = some (.array n e)) (he : P.underlying e = some (.int k)) (hsz : ∀ w, (sizeOf e).run P w = .ok 1 w)
    (f g : Nat → Int) : (binOp .neq t (.agg (arr k n f)) (.agg (arr k n g))).run P w = .ok (.bool (!sameI n f g)) w := by
  simp only [binOp]
  simp [Op.equal, Op.maxDepth, run_equalIn_arr w 9998 t e k n ht he hsz f g]
end Go.Proofs.Ytmneajmedopheaa
namespace Go.Proofs.Ytmneajmedopheaa
open Go.RowKit
namespace Ex
/-- An event: its kind, A to E. -/
structure EvT where
  k : Int
  a : Int
  b : Int
  c : Int
  d : Int
  e : Int
end Ex
open Ex
def evV (e : EvT) : Value := .agg #[.int .i64 e.k, .int .i64 e.a, .int .i64 e.b, .int .i64 e.c, .int .i64 e.d, .int .i64 e.e]
def rngE (e : EvT) : Prop := e.d ≤ 1073741824 ∧ -1073741824 ≤ e.d
instance (e : EvT) : Decidable (rngE e) := by unfold rngE; infer_instance
/-- An error's number. -/
def chkE (e : EvT) : Int :=
  if e.k = 0 ∨ e.k = 5 then (if e.d = 0 ∧ e.e = 0 then (if 0 ≤ e.a ∧ e.a ≤ 119 ∧ 0 ≤ e.b ∧ e.b ≤ 1 ∧ 0 ≤ e.c ∧ e.c ≤ 2 then 0 else 1) else 2)
  else if e.k = 1 then (if 0 ≤ e.a ∧ 0 ≤ e.b ∧ e.b ≤ 10 ∧ 0 ≤ e.c ∧ 0 ≤ e.d ∧ e.d ≤ 10 ∧ 0 ≤ e.e then 0 else 1)
  else if e.k = 2 then (if e.e = 0 then (if 0 ≤ e.a ∧ 0 ≤ e.b ∧ e.b ≤ 17 ∧ (e.b < 3 ∨ 3 < e.b) ∧ rngE e then 0 else 1) else 2)
  else if e.k = 3 then (if e.e = 0 then (if 0 ≤ e.a ∧ e.a ≤ 1 ∧ 0 ≤ e.b ∧ e.b ≤ 8 ∧ rngE e then 0 else 1) else 2)
  else if e.k = 4 then (if e.e = 0 ∧ e.a = 0 then (if 0 ≤ e.b ∧ e.b ≤ 6 ∧ rngE e then 0 else 1) else 2)
  else 6
/-- Undone. -/
def invE (e : EvT) : EvT :=
  if e.k = 0 then { e with k := 5 } else if e.k = 5 then { e with k := 0 } else if e.k = 1 then ⟨1, e.a, e.d, e.e, e.b, e.c⟩
  else if e.k = 2 ∨ e.k = 3 ∨ e.k = 4 then ⟨e.k, e.a, e.b, e.d, e.c, e.e⟩ else e
theorem inv_inv (e : EvT) : invE (invE e) = e := by
  obtain ⟨k, a, b, c, d, f⟩ := e
  unfold invE
  by_cases h0 : k = 0
  · subst h0; simp
  by_cases h5 : k = 5
  · subst h5; simp
  by_cases h1 : k = 1
  · subst h1; simp
  by_cases h2 : k = 2 ∨ k = 3 ∨ k = 4
  · simp [h0, h5, h1, h2]
  · simp [h0, h5, h1, h2]
/-- What may be is of a kind; its numbers. -/
theorem chkE_kind {e : EvT} (h : chkE e = 0) :
    (e.k = 0 ∧ e.d = 0 ∧ e.e = 0 ∧ 0 ≤ e.a ∧ e.a ≤ 119 ∧ 0 ≤ e.b ∧ e.b ≤ 1 ∧ 0 ≤ e.c ∧ e.c ≤ 2) ∨ (e.k = 5 ∧ e.d = 0 ∧ e.e = 0 ∧ 0 ≤ e.a ∧ e.a ≤ 119 ∧ 0 ≤ e.b ∧ e.b ≤ 1 ∧ 0 ≤ e.c ∧ e.c ≤ 2) ∨
    (e.k = 1 ∧ 0 ≤ e.a ∧ 0 ≤ e.b ∧ e.b ≤ 10 ∧ 0 ≤ e.c ∧ 0 ≤ e.d ∧ e.d ≤ 10 ∧ 0 ≤ e.e) ∨ (e.k = 2 ∧ e.e = 0 ∧ 0 ≤ e.a ∧ 0 ≤ e.b ∧ e.b ≤ 17 ∧ (e.b < 3 ∨ 3 < e.b) ∧ rngE e) ∨
    (e.k = 3 ∧ e.e = 0 ∧ 0 ≤ e.a ∧ e.a ≤ 1 ∧ 0 ≤ e.b ∧ e.b ≤ 8 ∧ rngE e) ∨ (e.k = 4 ∧ e.e = 0 ∧ e.a = 0 ∧ 0 ≤ e.b ∧ e.b ≤ 6 ∧ rngE e) := by
  unfold chkE rngE at h
  unfold rngE
  (repeat' split at h) <;> omega
theorem ck0 (a b c d f : Int) : chkE ⟨0, a, b, c, d, f⟩ = if d = 0 ∧ f = 0 then (if 0 ≤ a ∧ a ≤ 119 ∧ 0 ≤ b ∧ b ≤ 1 ∧ 0 ≤ c ∧ c ≤ 2 then 0 else 1) else 2 := rfl
theorem ck5 (a b c d f : Int) : chkE ⟨5, a, b, c, d, f⟩ = if d = 0 ∧ f = 0 then (if 0 ≤ a ∧ a ≤ 119 ∧ 0 ≤ b ∧ b ≤ 1 ∧ 0 ≤ c ∧ c ≤ 2 then 0 else 1) else 2 := rfl
theorem ck1 (a b c d f : Int) : chkE ⟨1, a, b, c, d, f⟩ = if 0 ≤ a ∧ 0 ≤ b ∧ b ≤ 10 ∧ 0 ≤ c ∧ 0 ≤ d ∧ d ≤ 10 ∧ 0 ≤ f then 0 else 1 := rfl
theorem ck2 (a b c d f : Int) : chkE ⟨2, a, b, c, d, f⟩ = if f = 0 then (if 0 ≤ a ∧ 0 ≤ b ∧ b ≤ 17 ∧ (b < 3 ∨ 3 < b) ∧ d ≤ 1073741824 ∧ -1073741824 ≤ d then 0 else 1) else 2 := rfl
theorem ck3 (a b c d f : Int) : chkE ⟨3, a, b, c, d, f⟩ = if f = 0 then (if 0 ≤ a ∧ a ≤ 1 ∧ 0 ≤ b ∧ b ≤ 8 ∧ d ≤ 1073741824 ∧ -1073741824 ≤ d then 0 else 1) else 2 := rfl
theorem ck4 (a b c d f : Int) : chkE ⟨4, a, b, c, d, f⟩ = if f = 0 ∧ a = 0 then (if 0 ≤ b ∧ b ≤ 6 ∧ d ≤ 1073741824 ∧ -1073741824 ≤ d then 0 else 1) else 2 := rfl
theorem ckN (k a b c d f : Int) (h : k < 0 ∨ 5 < k) : chkE ⟨k, a, b, c, d, f⟩ = 6 := by
  unfold chkE; dsimp only
  rw [if_neg (by omega), if_neg (by omega), if_neg (by omega), if_neg (by omega), if_neg (by omega)]
/-- An event's numbers. -/
structure EvI (e : EvT) : Prop where
  k : N64 e.k
  a : N64 e.a
  b : N64 e.b
  c : N64 e.c
  d : N64 e.d
  e : N64 e.e
end Go.Proofs.Ytmneajmedopheaa
namespace Go.Proofs.Ytmneajmedopheaa
open Go.RowKit
section
variable {P : Program} {md : Region.Mode} {ops : Array Oper} {Q : Exit → Act → World → Prop} {S T : World → Prop}
/-- What holds under a condition that says more holds under one that says less. -/
theorem anyH_mono (h : ∀ w, S w → T w) : ∀ (fuel : Nat) (listed : Array Bool) (a : Act) (w : World), wpAnyH P md ops Q S fuel listed a w → wpAnyH P md ops Q T fuel listed a w
  | 0, _, _, _, hh => hh
  | fuel + 1, _, _, _, hh => ⟨hh.1, fun i hi => wpOp_mono (fun a' w' h' => ⟨h _ h'.1, anyH_mono h fuel _ a' w' h'.2⟩) (hh.2 i hi)⟩
/-- Behind a call that leaves what was there: from now on nothing turns of what is there now. -/
theorem anyH_rebase {b : World} {fuel : Nat} {listed : Array Bool} {a : Act} {w : World} (hb : Below b.heap.size b w)
    (h : Below w.heap.size w w → wpAnyH P md ops Q (fun W => Below w.heap.size w W) fuel listed a w) : wpAnyH P md ops Q (fun W => Below b.heap.size b W) fuel listed a w :=
  anyH_mono (fun _ hW => hb.trans (hW.mono hb.size)) _ _ _ _ (h (Below.refl _ _))
theorem region_below {id : Nat} {a : Act} {w : World} (hm : P.follows .mixedOrders = true)
    (h : Below w.heap.size w w.drew → wpAnyH P .any ops Q (fun W => Below w.heap.size w W) ops.size (Array.replicate ops.size false) a w.drew) : (Code.region id ops true).wp P Q a w :=
  wp_region_held hm (h (Below.refl _ _).drew)
end
end Go.Proofs.Ytmneajmedopheaa
namespace Go.Proofs.Ytmneajmedopheaa
open Go.RowKit Ex
set_option maxRecDepth 100000
/-- An event's six cells. -/
def evC (e : EvT) : Array Value := #[.int .i64 e.k, .int .i64 e.a, .int .i64 e.b, .int .i64 e.c, .int .i64 e.d, .int .i64 e.e]
def EvB (w : World) (g : Nat) (e : EvT) : Prop := w.heap[g]? = some (.cells (evC e) 45 (0, 0))
theorem evC_one (e : EvT) : (evC e).all (·.oneCell') = true := by simp [evC, Value.oneCell']
theorem ev_size (e : EvT) : (Try.prog.info? 45).map (·.size) = some (evC e).size := by kernel_rfl
def ev0 : EvT := ⟨0, 0, 0, 0, 0, 0⟩
theorem ev_box (wr : World) (e : EvT) : ∃ w3, w3 = (wr.alloc (.cells (evC ev0) 45)).setRow wr.heap.size (evC e) ∧ EvB w3 wr.heap.size e ∧ Below wr.heap.size wr w3 := by
  refine ⟨_, rfl, ?_, below_setRow ((Below.refl _ _).alloc (Nat.le_refl _) _) _ _ (Nat.le_refl _)⟩
  unfold EvB
  exact setRow_heap _ _ _ _ _ _ (heap_alloc_new _ _)
theorem ev0_is : #[Value.int .i64 0, .int .i64 0, .int .i64 0, .int .i64 0, .int .i64 0, .int .i64 0] = evC ev0 := rfl
theorem EvB.cells {w : World} {g : Nat} {e : EvT} (h : EvB w g e) : w.cell? ⟨g, 0, none⟩ = some (.int .i64 e.k) ∧ w.cell? ⟨g, 1, none⟩ = some (.int .i64 e.a) ∧ w.cell? ⟨g, 2, none⟩ = some (.int .i64 e.b) ∧ w.cell? ⟨g, 3, none⟩ = some (.int .i64 e.c) ∧ w.cell? ⟨g, 4, none⟩ = some (.int .i64 e.d) ∧ w.cell? ⟨g, 5, none⟩ = some (.int .i64 e.e) :=
  ⟨cell_of_row w g 0 _ _ _ h, cell_of_row w g 1 _ _ _ h, cell_of_row w g 2 _ _ _ h, cell_of_row w g 3 _ _ _ h, cell_of_row w g 4 _ _ _ h, cell_of_row w g 5 _ _ _ h⟩
theorem EvB.lt {w : World} {g : Nat} {e : EvT} (h : EvB w g e) : g < w.heap.size := (Array.getElem?_eq_some_iff.1 h).1
theorem EvB.keep {w w' : World} {g : Nat} {e : EvT} (h : EvB w g e) (hb : Below w.heap.size w w') : EvB w' g e := (hb.block g h.lt).trans h
theorem results_cellE {P : Program} {fn : Func} {p : Tmp} {ty : TypeId} (h : fn.results = #[.cell p ty]) (tmps : Array Value) (w : World) (g : Nat) (t : TypeId) (cs : Array Value) (fr : Nat × Nat) (d : TypeDesc)
    (hp : tmps.getD p undef = .pointer (some ⟨g, 0, none⟩)) (hg : w.heap[g]? = some (.cells cs t fr))
    (hu : P.underlying ty = some d) (hd : (match d with | .struct _ | .array _ _ => true | _ => false) = true) (hi : (P.info? ty).map (·.size) = some cs.size) :
    (results fn tmps).run P w = .ok (.agg cs) w := by
  have hp' : tmps[p]?.getD undef = .pointer (some ⟨g, 0, none⟩) := by simpa using hp
  simp [results, h, hp', asAddr, run_loadVar_row w g t ty cs fr d hg hu hd hi]
theorem EvB.set_ {w : World} {g : Nat} {e e' : EvT} (h : EvB w g e) (i : Nat) (v : Value) (he : (evC e).setIfInBounds i v = evC e') : EvB (w.setCell ⟨g, i, none⟩ v) g e' := by
  unfold EvB
  rw [heap_setCell_same w g i _ _ _ h, he]
theorem EvB.far {w : World} {g g' : Nat} {e : EvT} (h : EvB w g e) (hg : g ≠ g') (i : Nat) (v : Value) : EvB (w.setCell ⟨g', i, none⟩ v) g e :=
  (heap_setCell_other w ⟨g', i, none⟩ g v (by simpa using hg)).trans h
set_option linter.unusedSimpArgs false in
set_option maxHeartbeats 0 in
theorem invRef_any (e : EvT) (w : World) : Calls Try.prog 21 #[evV e] w fun en w' => en = .returned (evV (invE e)) ∧ Below w.heap.size w w' := by
  obtain ⟨k, a, b, c, d, f⟩ := e
  unfold evV
  simp only
  go_enter Try.func21, Try.ntmps21
  go_upto_region 1 with fail
  obtain ⟨w2, hw2⟩ : ∃ w2, w2 = (w.alloc (.cells (evC ⟨k, a, b, c, d, f⟩) 45)).alloc (.cells (evC ev0) 45) := ⟨_, rfl⟩
  have hb1 : Below (w.alloc (.cells (evC ⟨k, a, b, c, d, f⟩) 45)).heap.size (w.alloc (.cells (evC ⟨k, a, b, c, d, f⟩) 45)) w2 := by rw [hw2]; exact (Below.refl _ _).alloc (Nat.le_refl _) _
  have hb0 : Below w.heap.size w (w.alloc (.cells (evC ⟨k, a, b, c, d, f⟩) 45)) := (Below.refl _ _).alloc (Nat.le_refl _) _
  have hE1 : EvB w2 w.heap.size ⟨k, a, b, c, d, f⟩ := EvB.keep (heap_alloc_new _ _) hb1
  have hE2 : EvB w2 (w.heap.size + 1) ev0 := by rw [hw2]; have := heap_alloc_new (w.alloc (.cells (evC ⟨k, a, b, c, d, f⟩) 45)) (.cells (evC ev0) 45); rwa [World.size_alloc] at this
  have hb2 := keepB hb1 hb0
  show Code.wp _ _ _ _ ((w.alloc (.cells (evC ⟨k, a, b, c, d, f⟩) 45)).alloc (.cells (evC ev0) 45))
  rw [← hw2]
  have hsz2 : w.heap.size + 1 < w2.heap.size := by rw [hw2]; simp
  clear hw2 hb1 hb0
  have hsz := ev_size ⟨k, a, b, c, d, f⟩
  have hone := evC_one ⟨k, a, b, c, d, f⟩
  have hs6 : (evC ev0).size = (evC ⟨k, a, b, c, d, f⟩).size := rfl
  have hz6 := ev0_is
  have hnew : (w2.alloc (.cells (evC ev0) 45)).heap[w2.heap.size]? = some (.cells (evC ev0) 45 (0, 0)) := heap_alloc_new _ _
  obtain ⟨es, hes⟩ : ∃ es, es = evC ⟨k, a, b, c, d, f⟩ := ⟨_, rfl⟩
  have HEs := Lib.hid hes
  have hE1' : w2.heap[w.heap.size]? = some (.cells es 45 (0, 0)) := by rw [hes]; exact hE1
  rw [← hes] at hsz hone hs6
  clear hes
  go_upto_region 2 with (first
    | (refine wpList_load_row rfl 45 (.tmp 1) rfl w.heap.size rfl 45 _ (0, 0) _ hE1' Try.underlying45 rfl hsz ?_)
    | (refine wpList_store_row rfl 45 (.tmp 3) (.tmp 4) rfl w2.heap.size _ rfl rfl 45 (evC ev0) hnew hsz hs6 hone ?_))
  rw [HEs.out]
  obtain ⟨w3, hw3, hE3, hb3⟩ := ev_box w2 ⟨k, a, b, c, d, f⟩
  rw [← hw3]
  replace hE1 := hE1.keep hb3
  replace hE2 := hE2.keep hb3
  have hl2 := hE2.lt
  have hlw := hb2.size
  have hlt2 : w.heap.size + 1 < w2.heap.size := by have : w.heap.size + 1 < w2.heap.size := hsz2; exact this
  replace hb3 := keepB hb3 hb2
  obtain ⟨g1, hg1⟩ : ∃ g1, g1 = w.heap.size := ⟨_, rfl⟩
  obtain ⟨g2, hg2⟩ : ∃ g2, g2 = w.heap.size + 1 := ⟨_, rfl⟩
  obtain ⟨g3, hg3⟩ : ∃ g3, g3 = w2.heap.size := ⟨_, rfl⟩
  have h12 : g1 < g2 := by omega
  have h23 : g2 < g3 := by omega
  have hwg2 : w.heap.size ≤ g2 := by omega
  have hwg3 : w.heap.size ≤ g3 := by omega
  rw [← hg2] at hE2
  rw [← hg3] at hE3
  rw [← hg1] at hE1
  rw [← hg1, show g1 + 1 = g2 by omega, ← hg3]
  clear hw3 hg1 hg2 hg3 hnew hE1' hs6 hone hsz HEs hb2 hl2 hlw hlt2 hsz2 hz6
  obtain ⟨c0, c1, c2, c3, c4, c5⟩ := hE1.cells
  obtain ⟨d0, d1, d2, d3, d4, d5⟩ := hE3.cells
  have f0 := frozen_of_row w3 g3 0 _ _ hE3
  simp only at c0 c1 c2 c3 c4 c5 d0 d1 d2 d3 d4 d5
  by_cases hk0 : k = 0
  · subst hk0
    have HI := Lib.hid (show invE ⟨0, a, b, c, d, f⟩ = ⟨5, a, b, c, d, f⟩ from rfl)
    have hS := hE3.set_ 0 (.int .i64 5) (e' := ⟨5, a, b, c, d, f⟩) rfl
    have hZ := hE2.far (show g2 ≠ g3 by omega) 0 (.int .i64 5)
    have hbS := hb3.setCell (p := ⟨g3, 0, none⟩) (show w.heap.size ≤ g3 from hwg3) (.int .i64 5)
    go_upto_region 13 with fail
    have hsz3 := ev_size (⟨5, a, b, c, d, f⟩)
    have hone3 := evC_one (⟨5, a, b, c, d, f⟩)
    have hs36 : (evC ev0).size = (evC (⟨5, a, b, c, d, f⟩)).size := rfl
    clear c0 c1 c2 c3 c4 c5 d0 d1 d2 d3 d4 d5 f0
    obtain ⟨es, hes⟩ : ∃ es, es = evC (⟨5, a, b, c, d, f⟩) := ⟨_, rfl⟩
    have HEs := Lib.hid hes
    unfold EvB at hS hZ
    rw [← hes] at hS hsz3 hone3 hs36
    clear hes
    go_wp2_with (first
      | (refine wpList_load_row rfl 45 (.tmp 3) rfl g3 rfl 45 _ (0, 0) _ hS Try.underlying45 rfl hsz3 ?_)
      | (refine wpList_store_row rfl 45 (.tmp 2) (.tmp 37) rfl g2 _ rfl rfl 45 (evC ev0) hZ hsz3 hs36 hone3 ?_))
    refine bodyPost_ret (v := .agg es) ?_ rfl ⟨by rw [HI.out, HEs.out]; rfl, below_setRow hbS _ _ hwg2⟩
    exact results_cellE (ty := 45) (p := 2) (by kernel_rfl) _ _ g2 45 _ (0, 0) _ rfl (setRow_heap _ _ _ _ _ _ hZ) Try.underlying45 rfl hsz3
  by_cases hk5 : k = 5
  · subst hk5
    have HI := Lib.hid (show invE ⟨5, a, b, c, d, f⟩ = ⟨0, a, b, c, d, f⟩ from rfl)
    have hS := hE3.set_ 0 (.int .i64 0) (e' := ⟨0, a, b, c, d, f⟩) rfl
    have hZ := hE2.far (show g2 ≠ g3 by omega) 0 (.int .i64 0)
    have hbS := hb3.setCell (p := ⟨g3, 0, none⟩) (show w.heap.size ≤ g3 from hwg3) (.int .i64 0)
    go_upto_region 13 with fail
    have hsz3 := ev_size (⟨0, a, b, c, d, f⟩)
    have hone3 := evC_one (⟨0, a, b, c, d, f⟩)
    have hs36 : (evC ev0).size = (evC (⟨0, a, b, c, d, f⟩)).size := rfl
    clear c0 c1 c2 c3 c4 c5 d0 d1 d2 d3 d4 d5 f0
    obtain ⟨es, hes⟩ : ∃ es, es = evC (⟨0, a, b, c, d, f⟩) := ⟨_, rfl⟩
    have HEs := Lib.hid hes
    unfold EvB at hS hZ
    rw [← hes] at hS hsz3 hone3 hs36
    clear hes
    go_wp2_with (first
      | (refine wpList_load_row rfl 45 (.tmp 3) rfl g3 rfl 45 _ (0, 0) _ hS Try.underlying45 rfl hsz3 ?_)
      | (refine wpList_store_row rfl 45 (.tmp 2) (.tmp 37) rfl g2 _ rfl rfl 45 (evC ev0) hZ hsz3 hs36 hone3 ?_))
    refine bodyPost_ret (v := .agg es) ?_ rfl ⟨by rw [HI.out, HEs.out]; rfl, below_setRow hbS _ _ hwg2⟩
    exact results_cellE (ty := 45) (p := 2) (by kernel_rfl) _ _ g2 45 _ (0, 0) _ rfl (setRow_heap _ _ _ _ _ _ hZ) Try.underlying45 rfl hsz3
  have n0 : (k == 0) = false := beq_eq_false_iff_ne.2 hk0
  have n5 : (k == 5) = false := beq_eq_false_iff_ne.2 hk5
  by_cases hk1 : k = 1
  · subst hk1
    go_upto_region 8 with fail
    have HI := Lib.hid (show invE ⟨1, a, b, c, d, f⟩ = ⟨1, a, d, f, b, c⟩ from rfl)
    have hA := hE3.set_ 2 (.int .i64 d) (e' := ⟨1, a, d, c, d, f⟩) rfl
    have hB := hA.set_ 3 (.int .i64 f) (e' := ⟨1, a, d, f, d, f⟩) rfl
    have hC := hB.set_ 4 (.int .i64 b) (e' := ⟨1, a, d, f, b, f⟩) rfl
    have hS := hC.set_ 5 (.int .i64 c) (e' := ⟨1, a, d, f, b, c⟩) rfl
    have hZ := (((hE2.far (show g2 ≠ g3 by omega) 2 (.int .i64 d)).far (show g2 ≠ g3 by omega) 3 (.int .i64 f)).far (show g2 ≠ g3 by omega) 4 (.int .i64 b)).far (show g2 ≠ g3 by omega) 5 (.int .i64 c)
    have hbS := (((hb3.setCell (p := ⟨g3, 2, none⟩) (show w.heap.size ≤ g3 from hwg3) (.int .i64 d)).setCell (p := ⟨g3, 3, none⟩) (show w.heap.size ≤ g3 from hwg3) (.int .i64 f)).setCell (p := ⟨g3, 4, none⟩) (show w.heap.size ≤ g3 from hwg3) (.int .i64 b)).setCell (p := ⟨g3, 5, none⟩) (show w.heap.size ≤ g3 from hwg3) (.int .i64 c)
    replace hbS := hbS.drew
    have e1 := hE1.far (show g1 ≠ g3 by omega) 2 (.int .i64 d)
    have e2 := e1.far (show g1 ≠ g3 by omega) 3 (.int .i64 f)
    have e3 := e2.far (show g1 ≠ g3 by omega) 4 (.int .i64 b)
    have e4 := e3.far (show g1 ≠ g3 by omega) 5 (.int .i64 c)
    have x2 := hE3.cells.2.2.1
    have y2 := frozen_of_row w3 g3 2 _ _ hE3
    have x3 := hA.cells.2.2.2.1
    have y3 := frozen_of_row _ g3 3 _ _ hA
    have x4 := hB.cells.2.2.2.2.1
    have y4 := frozen_of_row _ g3 4 _ _ hB
    have x5 := hC.cells.2.2.2.2.2
    have y5 := frozen_of_row _ g3 5 _ _ hC
    have l2 : ∀ W, EvB W g1 ⟨1, a, b, c, d, f⟩ → W.cell? ⟨g1, 2, none⟩ = some (.int .i64 b) := fun W h => h.cells.2.2.1
    have l3 : ∀ W, EvB W g1 ⟨1, a, b, c, d, f⟩ → W.cell? ⟨g1, 3, none⟩ = some (.int .i64 c) := fun W h => h.cells.2.2.2.1
    have l4 : ∀ W, EvB W g1 ⟨1, a, b, c, d, f⟩ → W.cell? ⟨g1, 4, none⟩ = some (.int .i64 d) := fun W h => h.cells.2.2.2.2.1
    have l5 : ∀ W, EvB W g1 ⟨1, a, b, c, d, f⟩ → W.cell? ⟨g1, 5, none⟩ = some (.int .i64 f) := fun W h => h.cells.2.2.2.2.2
    refine wp_region_held_drew (S := fun W => EvB W g1 ⟨1, a, b, c, d, f⟩) (by kernel_rfl) (show EvB w3.drew g1 _ from hE1) (fun hHeld => ?_)
    refine wpAnyH_take (i := 0) (v := ?_) rfl (by kernel_rfl) (by kernel_rfl) (by kernel_rfl) (fun _ _ _ h => h) (Or.inl ⟨by rfl, ?_⟩) hHeld ?_
    rotate_left
    · (intro w hSw; go_simp; (try with_reducible rfl))
    simp only [Act.put, List.getElem_toArray, List.getElem_cons_zero, List.getElem_cons_succ, List.setIfInBounds_toArray, List.set_cons_zero, List.set_cons_succ]
    refine wpAnyH_take (i := 1) (v := ?_) rfl (by kernel_rfl) (by kernel_rfl) (by kernel_rfl) (fun _ _ _ h => h) (Or.inl ⟨by rfl, ?_⟩) hHeld ?_
    rotate_left
    · (intro w hSw; go_simp; (try with_reducible rfl))
    simp only [Act.put, List.getElem_toArray, List.getElem_cons_zero, List.getElem_cons_succ, List.setIfInBounds_toArray, List.set_cons_zero, List.set_cons_succ]
    refine wpAnyH_take (i := 2) (v := ?_) rfl (by kernel_rfl) (by kernel_rfl) (by kernel_rfl) (fun _ _ _ h => h) (Or.inl ⟨by rfl, ?_⟩) hHeld ?_
    rotate_left
    · (intro w hSw; go_simp; (try with_reducible rfl))
    simp only [Act.put, List.getElem_toArray, List.getElem_cons_zero, List.getElem_cons_succ, List.setIfInBounds_toArray, List.set_cons_zero, List.set_cons_succ]
    refine wpAnyH_take (i := 3) (v := ?_) rfl (by kernel_rfl) (by kernel_rfl) (by kernel_rfl) (fun _ _ _ h => h) (Or.inl ⟨by rfl, ?_⟩) hHeld ?_
    rotate_left
    · (intro w hSw; go_simp; (try with_reducible rfl))
    simp only [Act.put, List.getElem_toArray, List.getElem_cons_zero, List.getElem_cons_succ, List.setIfInBounds_toArray, List.set_cons_zero, List.set_cons_succ]
    refine wpAnyH_take (i := 4) (v := ?_) rfl (by kernel_rfl) (by kernel_rfl) (by kernel_rfl) (fun _ _ _ h => h) (Or.inl ⟨by rfl, ?_⟩) hHeld ?_
    rotate_left
    · (intro w hSw; go_simp; (try with_reducible rfl))
    simp only [Act.put, List.getElem_toArray, List.getElem_cons_zero, List.getElem_cons_succ, List.setIfInBounds_toArray, List.set_cons_zero, List.set_cons_succ]
    refine wpAnyH_take (i := 5) (v := ?_) rfl (by kernel_rfl) (by kernel_rfl) (by kernel_rfl) (fun _ _ _ h => h) (Or.inl ⟨by rfl, ?_⟩) hHeld ?_
    rotate_left
    · (intro w hSw; go_simp; (try with_reducible rfl))
    simp only [Act.put, List.getElem_toArray, List.getElem_cons_zero, List.getElem_cons_succ, List.setIfInBounds_toArray, List.set_cons_zero, List.set_cons_succ]
    refine wpAnyH_take (i := 6) (v := ?_) rfl (by kernel_rfl) (by kernel_rfl) (by kernel_rfl) (fun _ _ _ h => h) (Or.inl ⟨by rfl, ?_⟩) hHeld ?_
    rotate_left
    · (intro w hSw; go_simp; (try with_reducible rfl))
    simp only [Act.put, List.getElem_toArray, List.getElem_cons_zero, List.getElem_cons_succ, List.setIfInBounds_toArray, List.set_cons_zero, List.set_cons_succ]
    refine wpAnyH_take (i := 7) (v := ?_) rfl (by kernel_rfl) (by kernel_rfl) (by kernel_rfl) (fun _ _ _ h => h) (Or.inl ⟨by rfl, ?_⟩) hHeld ?_
    rotate_left
    · (intro w hSw; go_simp; (try with_reducible rfl))
    simp only [Act.put, List.getElem_toArray, List.getElem_cons_zero, List.getElem_cons_succ, List.setIfInBounds_toArray, List.set_cons_zero, List.set_cons_succ]
    refine wpAnyH_take (i := 8) (v := ?_) rfl (by kernel_rfl) (by kernel_rfl) (by kernel_rfl) (fun _ _ _ h => h) (Or.inl ⟨by rfl, ?_⟩) hHeld ?_
    rotate_left
    · (intro w hSw; go_simp; (try with_reducible rfl))
    simp only [Act.put, List.getElem_toArray, List.getElem_cons_zero, List.getElem_cons_succ, List.setIfInBounds_toArray, List.set_cons_zero, List.set_cons_succ]
    refine wpAnyH_ready (rs := [9]) (by kernel_rfl) (by simp) ?_
    refine AllReadyH.cons rfl (fun K hK => ?_) AllReadyH.nil
    simp only [List.getElem_toArray, List.getElem_cons_zero, List.getElem_cons_succ]
    go_simp
    refine hK.out _ _ e1 (fun _ => ?_)
    try simp only [Act.put, List.setIfInBounds_toArray, List.set_cons_zero, List.set_cons_succ]
    clear hK K
    replace hHeld := e1
    refine wpAnyH_take (i := 10) (v := ?_) rfl (by kernel_rfl) (by kernel_rfl) (by kernel_rfl) (fun _ _ _ h => h) (Or.inl ⟨by rfl, ?_⟩) hHeld ?_
    rotate_left
    · (intro w hSw; go_simp; (try with_reducible rfl))
    simp only [Act.put, List.getElem_toArray, List.getElem_cons_zero, List.getElem_cons_succ, List.setIfInBounds_toArray, List.set_cons_zero, List.set_cons_succ]
    refine wpAnyH_ready (rs := [11]) (by kernel_rfl) (by simp) ?_
    refine AllReadyH.cons rfl (fun K hK => ?_) AllReadyH.nil
    simp only [List.getElem_toArray, List.getElem_cons_zero, List.getElem_cons_succ]
    go_simp
    refine hK.out _ _ e2 (fun _ => ?_)
    try simp only [Act.put, List.setIfInBounds_toArray, List.set_cons_zero, List.set_cons_succ]
    clear hK K
    replace hHeld := e2
    refine wpAnyH_take (i := 12) (v := ?_) rfl (by kernel_rfl) (by kernel_rfl) (by kernel_rfl) (fun _ _ _ h => h) (Or.inl ⟨by rfl, ?_⟩) hHeld ?_
    rotate_left
    · (intro w hSw; go_simp; (try with_reducible rfl))
    simp only [Act.put, List.getElem_toArray, List.getElem_cons_zero, List.getElem_cons_succ, List.setIfInBounds_toArray, List.set_cons_zero, List.set_cons_succ]
    refine wpAnyH_ready (rs := [13]) (by kernel_rfl) (by simp) ?_
    refine AllReadyH.cons rfl (fun K hK => ?_) AllReadyH.nil
    simp only [List.getElem_toArray, List.getElem_cons_zero, List.getElem_cons_succ]
    go_simp
    refine hK.out _ _ e3 (fun _ => ?_)
    try simp only [Act.put, List.setIfInBounds_toArray, List.set_cons_zero, List.set_cons_succ]
    clear hK K
    replace hHeld := e3
    refine wpAnyH_take (i := 14) (v := ?_) rfl (by kernel_rfl) (by kernel_rfl) (by kernel_rfl) (fun _ _ _ h => h) (Or.inl ⟨by rfl, ?_⟩) hHeld ?_
    rotate_left
    · (intro w hSw; go_simp; (try with_reducible rfl))
    simp only [Act.put, List.getElem_toArray, List.getElem_cons_zero, List.getElem_cons_succ, List.setIfInBounds_toArray, List.set_cons_zero, List.set_cons_succ]
    refine wpAnyH_ready (rs := [15]) (by kernel_rfl) (by simp) ?_
    refine AllReadyH.cons rfl (fun K hK => ?_) AllReadyH.nil
    simp only [List.getElem_toArray, List.getElem_cons_zero, List.getElem_cons_succ]
    go_simp
    refine hK.out _ _ e4 (fun _ => ?_)
    try simp only [Act.put, List.setIfInBounds_toArray, List.set_cons_zero, List.set_cons_succ]
    clear hK K
    replace hHeld := e4
    refine wpAnyH_done (by kernel_rfl) ?_ _
    clear hA hB hC e1 e2 e3 e4 x2 y2 x3 y3 x4 y4 x5 y5 l2 l3 l4 l5 hHeld
    go_upto_region 13 with fail
    have hsz3 := ev_size (⟨1, a, d, f, b, c⟩)
    have hone3 := evC_one (⟨1, a, d, f, b, c⟩)
    have hs36 : (evC ev0).size = (evC (⟨1, a, d, f, b, c⟩)).size := rfl
    clear c0 c1 c2 c3 c4 c5 d0 d1 d2 d3 d4 d5 f0
    obtain ⟨es, hes⟩ : ∃ es, es = evC (⟨1, a, d, f, b, c⟩) := ⟨_, rfl⟩
    have HEs := Lib.hid hes
    unfold EvB at hS hZ
    rw [← hes] at hS hsz3 hone3 hs36
    clear hes
    go_wp2_with (first
      | (refine wpList_load_row rfl 45 (.tmp 3) rfl g3 rfl 45 _ (0, 0) _ hS Try.underlying45 rfl hsz3 ?_)
      | (refine wpList_store_row rfl 45 (.tmp 2) (.tmp 37) rfl g2 _ rfl rfl 45 (evC ev0) hZ hsz3 hs36 hone3 ?_))
    refine bodyPost_ret (v := .agg es) ?_ rfl ⟨by rw [HI.out, HEs.out]; rfl, below_setRow hbS _ _ hwg2⟩
    exact results_cellE (ty := 45) (p := 2) (by kernel_rfl) _ _ g2 45 _ (0, 0) _ rfl (setRow_heap _ _ _ _ _ _ hZ) Try.underlying45 rfl hsz3
  have n1 : (k == 1) = false := beq_eq_false_iff_ne.2 hk1
  by_cases hk2 : k = 2 ∨ k = 3 ∨ k = 4
  · rcases hk2 with rfl | rfl | rfl
    · skip
      have HI := Lib.hid (show invE ⟨2, a, b, c, d, f⟩ = ⟨2, a, b, d, c, f⟩ from rfl)
      go_upto_region 12 with fail
      have hA := hE3.set_ 3 (.int .i64 d) (e' := ⟨2, a, b, d, d, f⟩) rfl
      have hS := hA.set_ 4 (.int .i64 c) (e' := ⟨2, a, b, d, c, f⟩) rfl
      have hZ := (hE2.far (show g2 ≠ g3 by omega) 3 (.int .i64 d)).far (show g2 ≠ g3 by omega) 4 (.int .i64 c)
      have hbS := (hb3.setCell (p := ⟨g3, 3, none⟩) (show w.heap.size ≤ g3 from hwg3) (.int .i64 d)).setCell (p := ⟨g3, 4, none⟩) (show w.heap.size ≤ g3 from hwg3) (.int .i64 c)
      replace hbS := hbS.drew
      have e1 := hE1.far (show g1 ≠ g3 by omega) 3 (.int .i64 d)
      have e2 := e1.far (show g1 ≠ g3 by omega) 4 (.int .i64 c)
      have x2 := hE3.cells.2.2.2.1
      have y2 := frozen_of_row w3 g3 3 _ _ hE3
      have x3 := hA.cells.2.2.2.2.1
      have y3 := frozen_of_row _ g3 4 _ _ hA
      have l3 : ∀ W, EvB W g1 ⟨2, a, b, c, d, f⟩ → W.cell? ⟨g1, 3, none⟩ = some (.int .i64 c) := fun W h => h.cells.2.2.2.1
      have l4 : ∀ W, EvB W g1 ⟨2, a, b, c, d, f⟩ → W.cell? ⟨g1, 4, none⟩ = some (.int .i64 d) := fun W h => h.cells.2.2.2.2.1
      refine wp_region_held_drew (S := fun W => EvB W g1 ⟨2, a, b, c, d, f⟩) (by kernel_rfl) (show EvB w3.drew g1 _ from hE1) (fun hHeld => ?_)
      refine wpAnyH_take (i := 0) (v := ?_) rfl (by kernel_rfl) (by kernel_rfl) (by kernel_rfl) (fun _ _ _ h => h) (Or.inl ⟨by rfl, ?_⟩) hHeld ?_
      rotate_left
      · (intro w hSw; go_simp; (try with_reducible rfl))
      simp only [Act.put, List.getElem_toArray, List.getElem_cons_zero, List.getElem_cons_succ, List.setIfInBounds_toArray, List.set_cons_zero, List.set_cons_succ]
      refine wpAnyH_take (i := 1) (v := ?_) rfl (by kernel_rfl) (by kernel_rfl) (by kernel_rfl) (fun _ _ _ h => h) (Or.inl ⟨by rfl, ?_⟩) hHeld ?_
      rotate_left
      · (intro w hSw; go_simp; (try with_reducible rfl))
      simp only [Act.put, List.getElem_toArray, List.getElem_cons_zero, List.getElem_cons_succ, List.setIfInBounds_toArray, List.set_cons_zero, List.set_cons_succ]
      refine wpAnyH_take (i := 2) (v := ?_) rfl (by kernel_rfl) (by kernel_rfl) (by kernel_rfl) (fun _ _ _ h => h) (Or.inl ⟨by rfl, ?_⟩) hHeld ?_
      rotate_left
      · (intro w hSw; go_simp; (try with_reducible rfl))
      simp only [Act.put, List.getElem_toArray, List.getElem_cons_zero, List.getElem_cons_succ, List.setIfInBounds_toArray, List.set_cons_zero, List.set_cons_succ]
      refine wpAnyH_take (i := 3) (v := ?_) rfl (by kernel_rfl) (by kernel_rfl) (by kernel_rfl) (fun _ _ _ h => h) (Or.inl ⟨by rfl, ?_⟩) hHeld ?_
      rotate_left
      · (intro w hSw; go_simp; (try with_reducible rfl))
      simp only [Act.put, List.getElem_toArray, List.getElem_cons_zero, List.getElem_cons_succ, List.setIfInBounds_toArray, List.set_cons_zero, List.set_cons_succ]
      refine wpAnyH_take (i := 4) (v := ?_) rfl (by kernel_rfl) (by kernel_rfl) (by kernel_rfl) (fun _ _ _ h => h) (Or.inl ⟨by rfl, ?_⟩) hHeld ?_
      rotate_left
      · (intro w hSw; go_simp; (try with_reducible rfl))
      simp only [Act.put, List.getElem_toArray, List.getElem_cons_zero, List.getElem_cons_succ, List.setIfInBounds_toArray, List.set_cons_zero, List.set_cons_succ]
      refine wpAnyH_ready (rs := [5]) (by kernel_rfl) (by simp) ?_
      refine AllReadyH.cons rfl (fun K hK => ?_) AllReadyH.nil
      simp only [List.getElem_toArray, List.getElem_cons_zero, List.getElem_cons_succ]
      go_simp
      refine hK.out _ _ e1 (fun _ => ?_)
      try simp only [Act.put, List.setIfInBounds_toArray, List.set_cons_zero, List.set_cons_succ]
      clear hK K
      replace hHeld := e1
      refine wpAnyH_take (i := 6) (v := ?_) rfl (by kernel_rfl) (by kernel_rfl) (by kernel_rfl) (fun _ _ _ h => h) (Or.inl ⟨by rfl, ?_⟩) hHeld ?_
      rotate_left
      · (intro w hSw; go_simp; (try with_reducible rfl))
      simp only [Act.put, List.getElem_toArray, List.getElem_cons_zero, List.getElem_cons_succ, List.setIfInBounds_toArray, List.set_cons_zero, List.set_cons_succ]
      refine wpAnyH_ready (rs := [7]) (by kernel_rfl) (by simp) ?_
      refine AllReadyH.cons rfl (fun K hK => ?_) AllReadyH.nil
      simp only [List.getElem_toArray, List.getElem_cons_zero, List.getElem_cons_succ]
      go_simp
      refine hK.out _ _ e2 (fun _ => ?_)
      try simp only [Act.put, List.setIfInBounds_toArray, List.set_cons_zero, List.set_cons_succ]
      clear hK K
      replace hHeld := e2
      refine wpAnyH_done (by kernel_rfl) ?_ _
      clear hA e1 e2 x2 y2 x3 y3 l3 l4 hHeld
      go_upto_region 13 with fail
      have hsz3 := ev_size (⟨2, a, b, d, c, f⟩)
      have hone3 := evC_one (⟨2, a, b, d, c, f⟩)
      have hs36 : (evC ev0).size = (evC (⟨2, a, b, d, c, f⟩)).size := rfl
      clear c0 c1 c2 c3 c4 c5 d0 d1 d2 d3 d4 d5 f0
      obtain ⟨es, hes⟩ : ∃ es, es = evC (⟨2, a, b, d, c, f⟩) := ⟨_, rfl⟩
      have HEs := Lib.hid hes
      unfold EvB at hS hZ
      rw [← hes] at hS hsz3 hone3 hs36
      clear hes
      go_wp2_with (first
        | (refine wpList_load_row rfl 45 (.tmp 3) rfl g3 rfl 45 _ (0, 0) _ hS Try.underlying45 rfl hsz3 ?_)
        | (refine wpList_store_row rfl 45 (.tmp 2) (.tmp 37) rfl g2 _ rfl rfl 45 (evC ev0) hZ hsz3 hs36 hone3 ?_))
      refine bodyPost_ret (v := .agg es) ?_ rfl ⟨by rw [HI.out, HEs.out]; rfl, below_setRow hbS _ _ hwg2⟩
      exact results_cellE (ty := 45) (p := 2) (by kernel_rfl) _ _ g2 45 _ (0, 0) _ rfl (setRow_heap _ _ _ _ _ _ hZ) Try.underlying45 rfl hsz3
    · skip
      have HI := Lib.hid (show invE ⟨3, a, b, c, d, f⟩ = ⟨3, a, b, d, c, f⟩ from rfl)
      go_upto_region 12 with fail
      have hA := hE3.set_ 3 (.int .i64 d) (e' := ⟨3, a, b, d, d, f⟩) rfl
      have hS := hA.set_ 4 (.int .i64 c) (e' := ⟨3, a, b, d, c, f⟩) rfl
      have hZ := (hE2.far (show g2 ≠ g3 by omega) 3 (.int .i64 d)).far (show g2 ≠ g3 by omega) 4 (.int .i64 c)
      have hbS := (hb3.setCell (p := ⟨g3, 3, none⟩) (show w.heap.size ≤ g3 from hwg3) (.int .i64 d)).setCell (p := ⟨g3, 4, none⟩) (show w.heap.size ≤ g3 from hwg3) (.int .i64 c)
      replace hbS := hbS.drew
      have e1 := hE1.far (show g1 ≠ g3 by omega) 3 (.int .i64 d)
      have e2 := e1.far (show g1 ≠ g3 by omega) 4 (.int .i64 c)
      have x2 := hE3.cells.2.2.2.1
      have y2 := frozen_of_row w3 g3 3 _ _ hE3
      have x3 := hA.cells.2.2.2.2.1
      have y3 := frozen_of_row _ g3 4 _ _ hA
      have l3 : ∀ W, EvB W g1 ⟨3, a, b, c, d, f⟩ → W.cell? ⟨g1, 3, none⟩ = some (.int .i64 c) := fun W h => h.cells.2.2.2.1
      have l4 : ∀ W, EvB W g1 ⟨3, a, b, c, d, f⟩ → W.cell? ⟨g1, 4, none⟩ = some (.int .i64 d) := fun W h => h.cells.2.2.2.2.1
      refine wp_region_held_drew (S := fun W => EvB W g1 ⟨3, a, b, c, d, f⟩) (by kernel_rfl) (show EvB w3.drew g1 _ from hE1) (fun hHeld => ?_)
      refine wpAnyH_take (i := 0) (v := ?_) rfl (by kernel_rfl) (by kernel_rfl) (by kernel_rfl) (fun _ _ _ h => h) (Or.inl ⟨by rfl, ?_⟩) hHeld ?_
      rotate_left
      · (intro w hSw; go_simp; (try with_reducible rfl))
      simp only [Act.put, List.getElem_toArray, List.getElem_cons_zero, List.getElem_cons_succ, List.setIfInBounds_toArray, List.set_cons_zero, List.set_cons_succ]
      refine wpAnyH_take (i := 1) (v := ?_) rfl (by kernel_rfl) (by kernel_rfl) (by kernel_rfl) (fun _ _ _ h => h) (Or.inl ⟨by rfl, ?_⟩) hHeld ?_
      rotate_left
      · (intro w hSw; go_simp; (try with_reducible rfl))
      simp only [Act.put, List.getElem_toArray, List.getElem_cons_zero, List.getElem_cons_succ, List.setIfInBounds_toArray, List.set_cons_zero, List.set_cons_succ]
      refine wpAnyH_take (i := 2) (v := ?_) rfl (by kernel_rfl) (by kernel_rfl) (by kernel_rfl) (fun _ _ _ h => h) (Or.inl ⟨by rfl, ?_⟩) hHeld ?_
      rotate_left
      · (intro w hSw; go_simp; (try with_reducible rfl))
      simp only [Act.put, List.getElem_toArray, List.getElem_cons_zero, List.getElem_cons_succ, List.setIfInBounds_toArray, List.set_cons_zero, List.set_cons_succ]
      refine wpAnyH_take (i := 3) (v := ?_) rfl (by kernel_rfl) (by kernel_rfl) (by kernel_rfl) (fun _ _ _ h => h) (Or.inl ⟨by rfl, ?_⟩) hHeld ?_
      rotate_left
      · (intro w hSw; go_simp; (try with_reducible rfl))
      simp only [Act.put, List.getElem_toArray, List.getElem_cons_zero, List.getElem_cons_succ, List.setIfInBounds_toArray, List.set_cons_zero, List.set_cons_succ]
      refine wpAnyH_take (i := 4) (v := ?_) rfl (by kernel_rfl) (by kernel_rfl) (by kernel_rfl) (fun _ _ _ h => h) (Or.inl ⟨by rfl, ?_⟩) hHeld ?_
      rotate_left
      · (intro w hSw; go_simp; (try with_reducible rfl))
      simp only [Act.put, List.getElem_toArray, List.getElem_cons_zero, List.getElem_cons_succ, List.setIfInBounds_toArray, List.set_cons_zero, List.set_cons_succ]
      refine wpAnyH_ready (rs := [5]) (by kernel_rfl) (by simp) ?_
      refine AllReadyH.cons rfl (fun K hK => ?_) AllReadyH.nil
      simp only [List.getElem_toArray, List.getElem_cons_zero, List.getElem_cons_succ]
      go_simp
      refine hK.out _ _ e1 (fun _ => ?_)
      try simp only [Act.put, List.setIfInBounds_toArray, List.set_cons_zero, List.set_cons_succ]
      clear hK K
      replace hHeld := e1
      refine wpAnyH_take (i := 6) (v := ?_) rfl (by kernel_rfl) (by kernel_rfl) (by kernel_rfl) (fun _ _ _ h => h) (Or.inl ⟨by rfl, ?_⟩) hHeld ?_
      rotate_left
      · (intro w hSw; go_simp; (try with_reducible rfl))
      simp only [Act.put, List.getElem_toArray, List.getElem_cons_zero, List.getElem_cons_succ, List.setIfInBounds_toArray, List.set_cons_zero, List.set_cons_succ]
      refine wpAnyH_ready (rs := [7]) (by kernel_rfl) (by simp) ?_
      refine AllReadyH.cons rfl (fun K hK => ?_) AllReadyH.nil
      simp only [List.getElem_toArray, List.getElem_cons_zero, List.getElem_cons_succ]
      go_simp
      refine hK.out _ _ e2 (fun _ => ?_)
      try simp only [Act.put, List.setIfInBounds_toArray, List.set_cons_zero, List.set_cons_succ]
      clear hK K
      replace hHeld := e2
      refine wpAnyH_done (by kernel_rfl) ?_ _
      clear hA e1 e2 x2 y2 x3 y3 l3 l4 hHeld
      go_upto_region 13 with fail
      have hsz3 := ev_size (⟨3, a, b, d, c, f⟩)
      have hone3 := evC_one (⟨3, a, b, d, c, f⟩)
      have hs36 : (evC ev0).size = (evC (⟨3, a, b, d, c, f⟩)).size := rfl
      clear c0 c1 c2 c3 c4 c5 d0 d1 d2 d3 d4 d5 f0
      obtain ⟨es, hes⟩ : ∃ es, es = evC (⟨3, a, b, d, c, f⟩) := ⟨_, rfl⟩
      have HEs := Lib.hid hes
      unfold EvB at hS hZ
      rw [← hes] at hS hsz3 hone3 hs36
      clear hes
      go_wp2_with (first
        | (refine wpList_load_row rfl 45 (.tmp 3) rfl g3 rfl 45 _ (0, 0) _ hS Try.underlying45 rfl hsz3 ?_)
        | (refine wpList_store_row rfl 45 (.tmp 2) (.tmp 37) rfl g2 _ rfl rfl 45 (evC ev0) hZ hsz3 hs36 hone3 ?_))
      refine bodyPost_ret (v := .agg es) ?_ rfl ⟨by rw [HI.out, HEs.out]; rfl, below_setRow hbS _ _ hwg2⟩
      exact results_cellE (ty := 45) (p := 2) (by kernel_rfl) _ _ g2 45 _ (0, 0) _ rfl (setRow_heap _ _ _ _ _ _ hZ) Try.underlying45 rfl hsz3
    · skip
      have HI := Lib.hid (show invE ⟨4, a, b, c, d, f⟩ = ⟨4, a, b, d, c, f⟩ from rfl)
      go_upto_region 12 with fail
      have hA := hE3.set_ 3 (.int .i64 d) (e' := ⟨4, a, b, d, d, f⟩) rfl
      have hS := hA.set_ 4 (.int .i64 c) (e' := ⟨4, a, b, d, c, f⟩) rfl
      have hZ := (hE2.far (show g2 ≠ g3 by omega) 3 (.int .i64 d)).far (show g2 ≠ g3 by omega) 4 (.int .i64 c)
      have hbS := (hb3.setCell (p := ⟨g3, 3, none⟩) (show w.heap.size ≤ g3 from hwg3) (.int .i64 d)).setCell (p := ⟨g3, 4, none⟩) (show w.heap.size ≤ g3 from hwg3) (.int .i64 c)
      replace hbS := hbS.drew
      have e1 := hE1.far (show g1 ≠ g3 by omega) 3 (.int .i64 d)
      have e2 := e1.far (show g1 ≠ g3 by omega) 4 (.int .i64 c)
      have x2 := hE3.cells.2.2.2.1
      have y2 := frozen_of_row w3 g3 3 _ _ hE3
      have x3 := hA.cells.2.2.2.2.1
      have y3 := frozen_of_row _ g3 4 _ _ hA
      have l3 : ∀ W, EvB W g1 ⟨4, a, b, c, d, f⟩ → W.cell? ⟨g1, 3, none⟩ = some (.int .i64 c) := fun W h => h.cells.2.2.2.1
      have l4 : ∀ W, EvB W g1 ⟨4, a, b, c, d, f⟩ → W.cell? ⟨g1, 4, none⟩ = some (.int .i64 d) := fun W h => h.cells.2.2.2.2.1
      refine wp_region_held_drew (S := fun W => EvB W g1 ⟨4, a, b, c, d, f⟩) (by kernel_rfl) (show EvB w3.drew g1 _ from hE1) (fun hHeld => ?_)
      refine wpAnyH_take (i := 0) (v := ?_) rfl (by kernel_rfl) (by kernel_rfl) (by kernel_rfl) (fun _ _ _ h => h) (Or.inl ⟨by rfl, ?_⟩) hHeld ?_
      rotate_left
      · (intro w hSw; go_simp; (try with_reducible rfl))
      simp only [Act.put, List.getElem_toArray, List.getElem_cons_zero, List.getElem_cons_succ, List.setIfInBounds_toArray, List.set_cons_zero, List.set_cons_succ]
      refine wpAnyH_take (i := 1) (v := ?_) rfl (by kernel_rfl) (by kernel_rfl) (by kernel_rfl) (fun _ _ _ h => h) (Or.inl ⟨by rfl, ?_⟩) hHeld ?_
      rotate_left
      · (intro w hSw; go_simp; (try with_reducible rfl))
      simp only [Act.put, List.getElem_toArray, List.getElem_cons_zero, List.getElem_cons_succ, List.setIfInBounds_toArray, List.set_cons_zero, List.set_cons_succ]
      refine wpAnyH_take (i := 2) (v := ?_) rfl (by kernel_rfl) (by kernel_rfl) (by kernel_rfl) (fun _ _ _ h => h) (Or.inl ⟨by rfl, ?_⟩) hHeld ?_
      rotate_left
      · (intro w hSw; go_simp; (try with_reducible rfl))
      simp only [Act.put, List.getElem_toArray, List.getElem_cons_zero, List.getElem_cons_succ, List.setIfInBounds_toArray, List.set_cons_zero, List.set_cons_succ]
      refine wpAnyH_take (i := 3) (v := ?_) rfl (by kernel_rfl) (by kernel_rfl) (by kernel_rfl) (fun _ _ _ h => h) (Or.inl ⟨by rfl, ?_⟩) hHeld ?_
      rotate_left
      · (intro w hSw; go_simp; (try with_reducible rfl))
      simp only [Act.put, List.getElem_toArray, List.getElem_cons_zero, List.getElem_cons_succ, List.setIfInBounds_toArray, List.set_cons_zero, List.set_cons_succ]
      refine wpAnyH_take (i := 4) (v := ?_) rfl (by kernel_rfl) (by kernel_rfl) (by kernel_rfl) (fun _ _ _ h => h) (Or.inl ⟨by rfl, ?_⟩) hHeld ?_
      rotate_left
      · (intro w hSw; go_simp; (try with_reducible rfl))
      simp only [Act.put, List.getElem_toArray, List.getElem_cons_zero, List.getElem_cons_succ, List.setIfInBounds_toArray, List.set_cons_zero, List.set_cons_succ]
      refine wpAnyH_ready (rs := [5]) (by kernel_rfl) (by simp) ?_
      refine AllReadyH.cons rfl (fun K hK => ?_) AllReadyH.nil
      simp only [List.getElem_toArray, List.getElem_cons_zero, List.getElem_cons_succ]
      go_simp
      refine hK.out _ _ e1 (fun _ => ?_)
      try simp only [Act.put, List.setIfInBounds_toArray, List.set_cons_zero, List.set_cons_succ]
      clear hK K
      replace hHeld := e1
      refine wpAnyH_take (i := 6) (v := ?_) rfl (by kernel_rfl) (by kernel_rfl) (by kernel_rfl) (fun _ _ _ h => h) (Or.inl ⟨by rfl, ?_⟩) hHeld ?_
      rotate_left
      · (intro w hSw; go_simp; (try with_reducible rfl))
      simp only [Act.put, List.getElem_toArray, List.getElem_cons_zero, List.getElem_cons_succ, List.setIfInBounds_toArray, List.set_cons_zero, List.set_cons_succ]
      refine wpAnyH_ready (rs := [7]) (by kernel_rfl) (by simp) ?_
      refine AllReadyH.cons rfl (fun K hK => ?_) AllReadyH.nil
      simp only [List.getElem_toArray, List.getElem_cons_zero, List.getElem_cons_succ]
      go_simp
      refine hK.out _ _ e2 (fun _ => ?_)
      try simp only [Act.put, List.setIfInBounds_toArray, List.set_cons_zero, List.set_cons_succ]
      clear hK K
      replace hHeld := e2
      refine wpAnyH_done (by kernel_rfl) ?_ _
      clear hA e1 e2 x2 y2 x3 y3 l3 l4 hHeld
      go_upto_region 13 with fail
      have hsz3 := ev_size (⟨4, a, b, d, c, f⟩)
      have hone3 := evC_one (⟨4, a, b, d, c, f⟩)
      have hs36 : (evC ev0).size = (evC (⟨4, a, b, d, c, f⟩)).size := rfl
      clear c0 c1 c2 c3 c4 c5 d0 d1 d2 d3 d4 d5 f0
      obtain ⟨es, hes⟩ : ∃ es, es = evC (⟨4, a, b, d, c, f⟩) := ⟨_, rfl⟩
      have HEs := Lib.hid hes
      unfold EvB at hS hZ
      rw [← hes] at hS hsz3 hone3 hs36
      clear hes
      go_wp2_with (first
        | (refine wpList_load_row rfl 45 (.tmp 3) rfl g3 rfl 45 _ (0, 0) _ hS Try.underlying45 rfl hsz3 ?_)
        | (refine wpList_store_row rfl 45 (.tmp 2) (.tmp 37) rfl g2 _ rfl rfl 45 (evC ev0) hZ hsz3 hs36 hone3 ?_))
      refine bodyPost_ret (v := .agg es) ?_ rfl ⟨by rw [HI.out, HEs.out]; rfl, below_setRow hbS _ _ hwg2⟩
      exact results_cellE (ty := 45) (p := 2) (by kernel_rfl) _ _ g2 45 _ (0, 0) _ rfl (setRow_heap _ _ _ _ _ _ hZ) Try.underlying45 rfl hsz3
  have n2 : (k == 2) = false := beq_eq_false_iff_ne.2 (by omega)
  have n3 : (k == 3) = false := beq_eq_false_iff_ne.2 (by omega)
  have n4 : (k == 4) = false := beq_eq_false_iff_ne.2 (by omega)
  have HI := Lib.hid (show invE ⟨k, a, b, c, d, f⟩ = ⟨k, a, b, c, d, f⟩ by unfold invE; simp only [hk0, hk5, hk1, hk2, if_false])
  have hS := hE3
  have hZ := hE2
  have hbS := hb3
  go_upto_region 13 with fail
  have hsz3 := ev_size (⟨k, a, b, c, d, f⟩)
  have hone3 := evC_one (⟨k, a, b, c, d, f⟩)
  have hs36 : (evC ev0).size = (evC (⟨k, a, b, c, d, f⟩)).size := rfl
  clear c0 c1 c2 c3 c4 c5 d0 d1 d2 d3 d4 d5 f0
  obtain ⟨es, hes⟩ : ∃ es, es = evC (⟨k, a, b, c, d, f⟩) := ⟨_, rfl⟩
  have HEs := Lib.hid hes
  unfold EvB at hS hZ
  rw [← hes] at hS hsz3 hone3 hs36
  clear hes
  go_wp2_with (first
    | (refine wpList_load_row rfl 45 (.tmp 3) rfl g3 rfl 45 _ (0, 0) _ hS Try.underlying45 rfl hsz3 ?_)
    | (refine wpList_store_row rfl 45 (.tmp 2) (.tmp 37) rfl g2 _ rfl rfl 45 (evC ev0) hZ hsz3 hs36 hone3 ?_))
  refine bodyPost_ret (v := .agg es) ?_ rfl ⟨by rw [HI.out, HEs.out]; rfl, below_setRow hbS _ _ hwg2⟩
  exact results_cellE (ty := 45) (p := 2) (by kernel_rfl) _ _ g2 45 _ (0, 0) _ rfl (setRow_heap _ _ _ _ _ _ hZ) Try.underlying45 rfl hsz3
end Go.Proofs.Ytmneajmedopheaa
namespace Go.Proofs.Ytmneajmedopheaa
open Go.RowKit Ex
set_option maxRecDepth 100000
theorem evC_size (e : EvT) : (evC e).size = 6 := rfl
/-- Events that stand one behind the other. -/
def RdV (B : Nat) (w : World) (A : Option Addr) (l : List EvT) : Prop := ∀ (i : Nat) (e : EvT), l[i]? = some e → ∃ b off, A = some ⟨b, off, none⟩ ∧ b < B ∧ w.rangeAt b (off + i * 6) (evC e).toList
/-- A slice that reads as events. -/
structure Evs (B : Nat) (w : World) (A : Option Addr) (n : Nat) (l : List EvT) : Prop where
  n : n = l.length
  r : RdV B w A l
  i : ∀ e ∈ l, EvI e
section
variable {B B' n : Nat} {w w' : World} {A : Option Addr} {l : List EvT}
theorem RdV.below (h : RdV B w A l) (hb : Below B w w') : RdV B w' A l := fun i o hi => by
  obtain ⟨b, off, h1, h2, h3⟩ := h i o hi
  exact ⟨b, off, h1, h2, range_below hb h2 h3⟩
theorem RdV.more (h : RdV B w A l) (hB : B ≤ B') : RdV B' w A l := fun i o hi => by
  obtain ⟨b, off, h1, h2, h3⟩ := h i o hi
  exact ⟨b, off, h1, by omega, h3⟩
theorem RdV.at_ (h : RdV B w A l) {i : Nat} (hi : i < l.length) : ∃ b off, A = some ⟨b, off, none⟩ ∧ b < B ∧ w.rangeAt b (off + i * 6) (evC l[i]).toList := h i _ (List.getElem?_eq_getElem hi)
theorem RdV.none_ : RdV B w A [] := fun i o hi => by simp at hi
theorem RdV.take_ (h : RdV B w A l) (m : Nat) : RdV B w A (l.take m) := fun i e hi => h i e (by
  rw [List.getElem?_take] at hi
  split at hi
  · exact hi
  · cases hi)
theorem Evs.below (h : Evs B w A n l) (hb : Below B w w') : Evs B w' A n l := ⟨h.n, h.r.below hb, h.i⟩
theorem Evs.more (h : Evs B w A n l) (hB : B ≤ B') : Evs B' w A n l := ⟨h.n, h.r.more hB, h.i⟩
theorem Evs.grow (h : Evs w.heap.size w A n l) (hb : Below w.heap.size w w') : Evs w'.heap.size w' A n l := (h.below hb).more hb.size
theorem Evs.nil : Evs B w A 0 [] := ⟨rfl, RdV.none_, fun e he => by cases he⟩
end
/-- All cells of events. -/
def flatV (l : List EvT) : List Value := l.flatMap fun o => (evC o).toList
theorem flatV_len (l : List EvT) : (flatV l).length = l.length * 6 := by
  induction l with
  | nil => rfl
  | cons x l ih => simp only [flatV, List.flatMap_cons, List.length_append, Array.length_toList, evC_size, List.length_cons] at ih ⊢; omega
theorem flatV_at : ∀ {l : List EvT} (i : Nat) (o : EvT), l[i]? = some o → ∀ j v, (evC o).toList[j]? = some v → (flatV l)[i * 6 + j]? = some v
  | [], i, o, h, _, _, _ => by simp at h
  | x :: l, 0, o, h, j, v, hv => by
    simp at h; subst h
    simp only [flatV, List.flatMap_cons, Nat.zero_mul, Nat.zero_add]
    rw [List.getElem?_append_left (List.getElem?_eq_some_iff.1 hv).1]; exact hv
  | x :: l, i + 1, o, h, j, v, hv => by
    have ih := flatV_at (l := l) i o (by simpa using h) j v hv
    simp only [flatV, List.flatMap_cons] at ih ⊢
    rw [List.getElem?_append_right (by rw [Array.length_toList, evC_size]; omega), Array.length_toList, evC_size, show (i + 1) * 6 + j - 6 = i * 6 + j by omega]
    exact ih
theorem flatV_of {l : List EvT} {j : Nat} {v : Value} (h : (flatV l)[j]? = some v) : ∃ o, l[j / 6]? = some o ∧ (evC o).toList[j % 6]? = some v := by
  have hj : j < l.length * 6 := by rw [← flatV_len]; exact (List.getElem?_eq_some_iff.1 h).1
  have hq : j / 6 < l.length := by omega
  refine ⟨l[j / 6], List.getElem?_eq_getElem hq, ?_⟩
  have hr : j % 6 < (evC l[j / 6]).toList.length := by rw [Array.length_toList, evC_size]; omega
  rw [List.getElem?_eq_getElem hr]
  have := flatV_at (j / 6) _ (List.getElem?_eq_getElem hq) (j % 6) _ (List.getElem?_eq_getElem hr)
  rw [show j / 6 * 6 + j % 6 = j by omega] at this
  exact this.symm.trans h
theorem flatV_one (l : List EvT) : ∀ u ∈ flatV l, u.oneCell' = true := fun u hu => by
  obtain ⟨o, _, h⟩ := List.mem_flatMap.1 hu
  obtain ⟨i, hi, rfl⟩ := List.getElem_of_mem h
  have h1 := Array.all_eq_true'.1 (evC_one o) ((evC o).toList[i]) (by simp)
  exact h1
theorem flatV_app (a b : List EvT) : flatV (a ++ b) = flatV a ++ flatV b := by simp [flatV]
theorem info_ev : (Try.prog.info? 45).map (fun i => (i.zero, i.size, i.bytes)) = some (some (.agg (evC ev0)), 6, 48) := by kernel_rfl
/-- Events in a block of the call's own. -/
structure OwnV (W : World) (base : Nat) (A : Option Addr) (n c : Nat) (l : List EvT) : Prop where
  len : n = l.length
  o : W.ownsRow base 45 6 (.slice A n c) n (flatV l)
section
variable {W W' w : World} {base b n c : Nat} {A : Option Addr} {l : List EvT}
theorem OwnV.cap (h : OwnV W base A n c l) : n ≤ c ∧ c ≤ maxLen := by
  rcases h.o.2 with ⟨hv, hz⟩ | ⟨g, cap, cur, hv, hb, hg, hc, hm, _⟩
  · injection hv with _ _ h3
    subst h3 hz
    exact ⟨Nat.le_refl _, Nat.zero_le _⟩
  · injection hv with _ _ h3
    subst h3
    exact ⟨hc, hm⟩
theorem OwnV.rd (h : OwnV W base A n c l) : RdV W.heap.size W A l := by
  rcases h.o.2 with ⟨hv, hz⟩ | ⟨g, cap, cur, hv, hb, hg, _⟩
  · subst hz
    obtain rfl : l = [] := List.length_eq_zero_iff.1 h.len.symm
    exact RdV.none_
  · injection hv with h1 _ h3
    subst h1
    intro i o hi
    refine ⟨g, 0, rfl, (Array.getElem?_eq_some_iff.1 hg).1, fun j u hu => ?_⟩
    have := h.o.cells (g := g) rfl (i * 6 + j) u (flatV_at i o hi j u hu)
    rw [Addr.add_mid, ← Nat.add_assoc] at this
    exact this
theorem OwnV.evs (h : OwnV W base A n c l) (hi : ∀ e ∈ l, EvI e) : Evs W.heap.size W A n l := ⟨h.len, h.rd, hi⟩
theorem OwnV.below (h : OwnV W base A n c l) (hb : Below W.heap.size W W') : OwnV W' base A n c l := ⟨h.len, owns_keep h.o fun j hj => hb.block j (h.o.lt j hj).2⟩
theorem OwnV.low (h : OwnV W base A n c l) (hb : b ≤ base) : OwnV W b A n c l := by
  refine ⟨h.len, h.o.1, ?_⟩
  rcases h.o.2 with hv | ⟨g, cap, cur, hv, hbs, rest⟩
  · exact .inl hv
  · exact .inr ⟨g, cap, cur, hv, Nat.le_trans hb hbs, rest⟩
theorem OwnV.grown (h : OwnV W base A n c l) (hb : Below base w W) (hbs : base ≤ W.heap.size) (hg : W.grownBy W' (Value.slice A n c).ownBlock) : Below base w W' :=
  hb.grown hg hbs (fun j hj => (h.o.lt j hj).1)
end
theorem ownV_nil (w : World) (base : Nat) : OwnV w base none 0 0 [] := ⟨rfl, rfl, .inl ⟨rfl, rfl⟩⟩
theorem ownV_empty (w : World) (base : Nat) (hb : base ≤ w.heap.size) : OwnV (w.alloc (.cells #[] 45)) base (some ⟨w.heap.size, 0, none⟩) 0 0 [] :=
  ⟨rfl, rfl, .inr ⟨w.heap.size, 0, #[], rfl, hb, heap_alloc_new _ _, Nat.le_refl _, by simp, by simp, by simp [flatV]⟩⟩
/-- append of any events to events of the call's own, with where they lie then. -/
theorem run_appV {w : World} (ty : TypeId) (base : Nat) (A : Option Addr) (n c : Nat) (l : List EvT) (h : OwnV w base A n c l)
    (B : Nat) (A2 : Option Addr) (m c2 : Nat) (l2 : List EvT) (hr : RdV B w A2 l2) (hl : m = l2.length) (hn : n + m ≤ 1000000) (hbase : base ≤ w.heap.size) :
    ∃ A' c' w', (Builtin.append_ #[30, 30] ty #[.slice A n c, .slice A2 m c2]).run Try.prog w = .ok (.slice A' (n + m) c') w' ∧ OwnV w' base A' (n + m) c' (l ++ l2) ∧ w.grownBy w' (Value.slice A n c).ownBlock ∧
      ((Value.slice A' (n + m) c').ownBlock = (Value.slice A n c).ownBlock ∨ (Value.slice A' (n + m) c').ownBlock = some w.heap.size) := by
  obtain ⟨i0, hi, hz0, hz1, hz2⟩ := info_parts info_ev
  rcases A2 with _ | ad
  · have hl0 : l2 = [] := by
      cases l2 with
      | nil => rfl
      | cons y r => obtain ⟨b, off, e, _⟩ := hr 0 y rfl; cases e
    subst hl0
    obtain rfl : m = 0 := hl
    refine ⟨A, c, w, ?_, by rw [List.append_nil]; exact h, World.grownBy.refl w _, .inl rfl⟩
    rcases h.o.2 with ⟨hv, hn0⟩ | ⟨g, cap, cur, hv, _, _, hnc, _⟩
    · rw [Nat.add_zero, hv]
      simp [Builtin.append_, run_underlying Try.underlying30, sizeOf, typeInfo, hi, Builtin.lenOf, Builtin.firstCells]
    · rw [Nat.add_zero, hv]
      simp [Builtin.append_, run_underlying Try.underlying30, sizeOf, typeInfo, hi, Builtin.lenOf, Builtin.firstCells, hnc, storeCells]
  · obtain ⟨v', w', hrun, hown, hgr, _, hat⟩ := run_append_own_at (P := Try.prog) w base 30 ty 45 i0 _ 6 48 Try.underlying30 hi hz0 hz1 hz2 (evC_size ev0) (by omega) _ n (flatV l) h.o ad m c2 (flatV l2) (by rw [flatV_len, hl])
      (fun j u hj => by
        obtain ⟨o, h1, h2⟩ := flatV_of hj
        obtain ⟨b, off, ea, _, hra⟩ := hr _ _ h1
        injection ea with ea
        subst ea
        rw [Addr.add_mid, show off + j = off + j / 6 * 6 + j % 6 by omega]
        exact hra _ _ h2) (flatV_one l2) (by unfold maxLen; omega) (by omega) hbase
    rw [← flatV_app] at hown
    have hform : ∃ A' c', v' = .slice A' (n + m) c' := by
      rcases hown.2 with ⟨rfl, hz⟩ | ⟨g', cap, _, rfl, _⟩
      · exact ⟨none, 0, by rw [hz]⟩
      · exact ⟨_, _, rfl⟩
    obtain ⟨A', c', rfl⟩ := hform
    exact ⟨A', c', w', hrun, ⟨by rw [List.length_append, ← hl, ← h.len], hown⟩, hgr, hat⟩
theorem wp_appV {o : Oper} {a : Act} {w : World} {K : Act → World → Prop} {Q : Exit → Act → World → Prop} (s x : Operand)
    (ho : o.op = .call { callee := .builtin .append, args := #[s, x], argTypes := #[30, 30] })
    (base : Nat) (A : Option Addr) (n c : Nat) (l : List EvT) (hs : a.eval s = .slice A n c) (h : OwnV w base A n c l)
    (B : Nat) (A2 : Option Addr) (m c2 : Nat) (l2 : List EvT) (hx : a.eval x = .slice A2 m c2) (hr : RdV B w A2 l2) (hl : m = l2.length) (hn : n + m ≤ 1000000) (hbase : base ≤ w.heap.size)
    (hK : ∀ A' c' w', OwnV w' base A' (n + m) c' (l ++ l2) → w.grownBy w' (Value.slice A n c).ownBlock → ((Value.slice A' (n + m) c').ownBlock = (Value.slice A n c).ownBlock ∨ (Value.slice A' (n + m) c').ownBlock = some w.heap.size) → K (a.put o.dst (.slice A' (n + m) c')) w') :
    o.wp Try.prog a w K Q := by
  obtain ⟨A', c', w', hrun, h1, h2, h3⟩ := run_appV o.type base A n c l h B A2 m c2 l2 hr hl hn hbase
  unfold Oper.wp execOp
  simp only [ho, resolve, invoke, builtin, Sem.run_bind, Sem.run_pure, Result.andThen_ok, List.map_toArray, List.map_cons, List.map_nil, hs, hx, hrun]
  exact hK A' c' w' h1 h2 h3
theorem wpList_appVG {ops : Array Oper} {rest : List Oper} {o : Oper} {a : Act} {w : World} {Q : Exit → Act → World → Prop} (hgd : o.guard = none) (s x : Operand)
    (ho : o.op = .call { callee := .builtin .append, args := #[s, x], argTypes := #[30, 30] })
    (base : Nat) (A : Option Addr) (n c : Nat) (l : List EvT) (hs : a.eval s = .slice A n c) (h : OwnV w base A n c l)
    (B : Nat) (A2 : Option Addr) (m c2 : Nat) (l2 : List EvT) (hx : a.eval x = .slice A2 m c2) (hr : RdV B w A2 l2) (hl : m = l2.length) (hn : n + m ≤ 1000000) (hbase : base ≤ w.heap.size)
    (hK : ∀ A' c' w', OwnV w' base A' (n + m) c' (l ++ l2) → w.grownBy w' (Value.slice A n c).ownBlock → ((Value.slice A' (n + m) c').ownBlock = (Value.slice A n c).ownBlock ∨ (Value.slice A' (n + m) c').ownBlock = some w.heap.size) → wpList Try.prog ops Q rest (a.put o.dst (.slice A' (n + m) c')) w') :
    wpList Try.prog ops Q (o :: rest) a w :=
  wpList_plain hgd fun _ hK' => wp_appV s x ho base A n c l hs h B A2 m c2 l2 hx hr hl hn hbase fun A' c' w' h1 h2 h3 => hK' _ _ (hK A' c' w' h1 h2 h3)
/-- append of any events to events of the call's own. -/
theorem wpList_appV {ops : Array Oper} {rest : List Oper} {o : Oper} {a : Act} {w : World} {Q : Exit → Act → World → Prop} (hgd : o.guard = none) (s x : Operand)
    (ho : o.op = .call { callee := .builtin .append, args := #[s, x], argTypes := #[30, 30] })
    (base : Nat) (A : Option Addr) (n c : Nat) (l : List EvT) (hs : a.eval s = .slice A n c) (h : OwnV w base A n c l)
    (B : Nat) (A2 : Option Addr) (m c2 : Nat) (l2 : List EvT) (hx : a.eval x = .slice A2 m c2) (hr : RdV B w A2 l2) (hl : m = l2.length) (hn : n + m ≤ 1000000) (hbase : base ≤ w.heap.size)
    (hK : ∀ A' c' w', OwnV w' base A' (n + m) c' (l ++ l2) → w.grownBy w' (Value.slice A n c).ownBlock → wpList Try.prog ops Q rest (a.put o.dst (.slice A' (n + m) c')) w') :
    wpList Try.prog ops Q (o :: rest) a w :=
  wpList_appVG hgd s x ho base A n c l hs h B A2 m c2 l2 hx hr hl hn hbase fun A' c' w' h1 h2 _ => hK A' c' w' h1 h2
/-- An event's own block of one. -/
theorem rdV_one {w : World} {g : Nat} {e : EvT} (h : EvB w g e) : RdV w.heap.size w (some ⟨g, 0, none⟩) [e] := fun i o hi => by
  cases i with
  | succ i => simp at hi
  | zero =>
    obtain rfl : e = o := by simpa using hi
    refine ⟨g, 0, rfl, h.lt, fun j v hv => ?_⟩
    rw [Array.getElem?_toList] at hv
    rw [show 0 + 0 * 6 + j = j by omega, cell_of_row w g j _ _ _ h]
    exact hv
theorem buildSlice_ev (e : EvT) (W : World) : (Instr.buildSlice 30 1 #[(0, evV e)]).run Try.prog W = .ok (.slice (some ⟨W.heap.size, 0, none⟩) 1 1) (W.alloc (.cells (evC e) 45)) := by obtain ⟨k, a, b, c, d, f⟩ := e; kernel_rfl
theorem wpList_buildSliceEv {ops : Array Oper} {rest : List Oper} {o : Oper} {a : Act} {w : World} {Q : Exit → Act → World → Prop} (hg : o.guard = none) (x : Operand) (ho : o.op = .buildSlice 30 1 #[(0, x)]) (e : EvT)
    (hx : a.eval x = evV e) (hK : wpList Try.prog ops Q rest (a.put o.dst (.slice (some ⟨w.heap.size, 0, none⟩) 1 1)) (w.alloc (.cells (evC e) 45))) : wpList Try.prog ops Q (o :: rest) a w := by
  refine wpList_plain hg fun K' hK' => ?_
  unfold Oper.wp
  simp [execOp, ho, hx, buildSlice_ev, Result.andThen]
  exact hK' _ _ hK
/-- An event within, loaded whole. -/
theorem load_evm {ops : Array Oper} {rest : List Oper} {op : Oper} {a : Act} {w : World} {Q : Exit → Act → World → Prop} (hgd : op.guard = none) (x : Operand) (ho : op.op = .load 45 x)
    (b o : Nat) (hx : a.eval x = .pointer (some ⟨b, o, none⟩)) (e : EvT) (h : w.rangeAt b o (evC e).toList)
    (hK : wpList Try.prog ops Q rest (a.put op.dst (evV e)) w) : wpList Try.prog ops Q (op :: rest) a w := by
  refine wpList_load_mid hgd 45 x ho b o hx (evC e).toList _ h Try.underlying45 rfl (by rw [Array.length_toList]; exact ev_size e) ?_
  rw [Array.toArray_toList]
  exact hK
theorem yields_evm {ops : Array Oper} {S : World → Prop} {op : Oper} {a : Act} (hw : Region.wanted op (yielded ops a.tmps) = true) (x : Operand) (ho : op.op = .load 45 x)
    (b o : Nat) (hx : a.eval x = .pointer (some ⟨b, o, none⟩)) (e : EvT) (hS : ∀ w, S w → w.rangeAt b o (evC e).toList) : YieldsIf Try.prog ops S op (evV e) a := by
  have h := yieldsIf_load_mid (P := Try.prog) (S := S) hw 45 x ho b o hx (evC e).toList _ hS Try.underlying45 rfl (by rw [Array.length_toList]; exact ev_size e)
  rw [Array.toArray_toList] at h
  exact h
theorem neq_evv (x : EvT) (W : World) : (binOp .neq 45 (evV x) (evV x)).run Try.prog W = .ok (.bool false) W := by
  obtain ⟨k, a, b, c, d, f⟩ := x
  unfold evV
  go_simp
theorem range_ev_cell {w : World} {b o : Nat} {e : EvT} (h : w.rangeAt b o (evC e).toList) {j : Nat} (hj : j < 6) : w.cell? ⟨b, o + j, none⟩ = (evC e)[j]? := by
  have h1 : j < (evC e).toList.length := hj
  rw [h j _ (List.getElem?_eq_getElem h1), ← List.getElem?_eq_getElem h1, Array.getElem?_toList]
theorem invE_i {e : EvT} (h : EvI e) : EvI (invE e) := by
  unfold invE
  split
  · exact ⟨show N64 (5 : Int) from by unfold N64; omega, h.a, h.b, h.c, h.d, h.e⟩
  split
  · exact ⟨show N64 (0 : Int) from by unfold N64; omega, h.a, h.b, h.c, h.d, h.e⟩
  split
  · exact ⟨show N64 (1 : Int) from by unfold N64; omega, h.a, h.d, h.e, h.b, h.c⟩
  split
  · exact ⟨h.k, h.a, h.b, h.d, h.c, h.e⟩
  · exact h
end Go.Proofs.Ytmneajmedopheaa
namespace Go.Proofs.Ytmneajmedopheaa
open Go.RowKit
set_option maxRecDepth 100000
namespace Ex
/-- A state: objects, lists, the players' numbers one behind the other, the game's. -/
structure StT where
  objs : List (Nat → Int)
  lists : Nat → List Int
  pl : Nat → Int
  gm : Nat → Int
end Ex
open Ex
/-- Eleven slices. -/
def sl11 (L : Nat → SlT) : Array Value := #[(L 0).v, (L 1).v, (L 2).v, (L 3).v, (L 4).v, (L 5).v, (L 6).v, (L 7).v, (L 8).v, (L 9).v, (L 10).v]
theorem sl11_size (L : Nat → SlT) : (sl11 L).size = 11 := rfl
theorem sl11_get (L : Nat → SlT) {z : Nat} (hz : z < 11) : (sl11 L)[z]? = some (L z).v := by
  match z, hz with
  | 0, _ => rfl
  | 1, _ => rfl
  | 2, _ => rfl
  | 3, _ => rfl
  | 4, _ => rfl
  | 5, _ => rfl
  | 6, _ => rfl
  | 7, _ => rfl
  | 8, _ => rfl
  | 9, _ => rfl
  | 10, _ => rfl
/-- A state's 37 cells. -/
def stC (O : SlT) (L : Nat → SlT) (p g : Nat → Int) : Array Value := #[O.v] ++ sl11 L ++ arr .i64 18 p ++ arr .i64 7 g
theorem stC_size (O : SlT) (L : Nat → SlT) (p g : Nat → Int) : (stC O L p g).size = 37 := by simp [stC, sl11_size, arr_size]
theorem stC_objs (O : SlT) (L : Nat → SlT) (p g : Nat → Int) : (stC O L p g)[0]? = some O.v := by
  unfold stC
  rw [Array.getElem?_append_left (by simp [sl11_size, arr_size]), Array.getElem?_append_left (by simp [sl11_size]), Array.getElem?_append_left (by simp)]
  rfl
theorem stC_list (O : SlT) (L : Nat → SlT) (p g : Nat → Int) {z : Nat} (hz : z < 11) : (stC O L p g)[1 + z]? = some (L z).v := by
  unfold stC
  rw [Array.getElem?_append_left (by simp [sl11_size, arr_size]; omega), Array.getElem?_append_left (by simp [sl11_size]; omega), Array.getElem?_append_right (by simp), ← sl11_get L hz]
  congr 1
  simp
theorem stC_pl (O : SlT) (L : Nat → SlT) (p g : Nat → Int) {i : Nat} (hi : i < 18) : (stC O L p g)[12 + i]? = some (.int .i64 (p i)) := by
  unfold stC
  rw [Array.getElem?_append_left (by simp [sl11_size, arr_size]; omega), Array.getElem?_append_right (by simp [sl11_size]), ← arr_get .i64 18 p hi]
  congr 1
  simp [sl11_size]
theorem stC_gm (O : SlT) (L : Nat → SlT) (p g : Nat → Int) {i : Nat} (hi : i < 7) : (stC O L p g)[30 + i]? = some (.int .i64 (g i)) := by
  unfold stC
  rw [Array.getElem?_append_right (by simp [sl11_size, arr_size]), ← arr_get .i64 7 g hi]
  congr 1
  simp [sl11_size, arr_size]
theorem stC_one (O : SlT) (L : Nat → SlT) (p g : Nat → Int) : (stC O L p g).all (·.oneCell') = true := by
  have h1 := arr_one .i64 18 p
  have h2 := arr_one .i64 7 g
  simp only [stC, Array.all_append, h1, h2]
  simp [sl11, SlT.v, Value.oneCell']
/-- Objects that stand one behind the other. -/
def RdO (B : Nat) (w : World) (A : Option Addr) (l : List (Nat → Int)) : Prop := ∀ (i : Nat) (o : Nat → Int), l[i]? = some o → ∃ b off, A = some ⟨b, off, none⟩ ∧ b < B ∧ w.rangeAt b (off + i * 18) (arr .i64 18 o).toList
/-- Thirty-seven cells read as a state. -/
structure ReadsS (B : Nat) (w : World) (cs : Array Value) (s : StT) (O : SlT) (L : Nat → SlT) : Prop where
  cs : cs = stC O L s.pl s.gm
  on : O.n = s.objs.length
  oc : O.n ≤ O.c
  om : O.c ≤ maxLen
  o : RdO B w O.A s.objs
  l : ∀ z < 11, Nums .i64 w B (L z).A (L z).n (s.lists z)
  lc : ∀ z < 11, (L z).n ≤ (L z).c
  ow : ∀ o ∈ s.objs, ∀ i < 18, N64 (o i)
  lw : ∀ z < 11, ∀ x ∈ s.lists z, N64 x
  pw : ∀ i < 18, N64 (s.pl i)
  gw : ∀ i < 7, N64 (s.gm i)
section
variable {B B' : Nat} {w w' : World} {cs : Array Value} {s : StT} {O : SlT} {L : Nat → SlT}
theorem RdO.below {A : Option Addr} {l : List (Nat → Int)} (h : RdO B w A l) (hb : Below B w w') : RdO B w' A l := fun i o hi => by
  obtain ⟨b, off, h1, h2, h3⟩ := h i o hi
  exact ⟨b, off, h1, h2, range_below hb h2 h3⟩
theorem RdO.more {A : Option Addr} {l : List (Nat → Int)} (h : RdO B w A l) (hB : B ≤ B') : RdO B' w A l := fun i o hi => by
  obtain ⟨b, off, h1, h2, h3⟩ := h i o hi
  exact ⟨b, off, h1, by omega, h3⟩
theorem ReadsS.below (h : ReadsS B w cs s O L) (hb : Below B w w') : ReadsS B w' cs s O L :=
  ⟨h.cs, h.on, h.oc, h.om, h.o.below hb, fun z hz => (h.l z hz).below hb, h.lc, h.ow, h.lw, h.pw, h.gw⟩
theorem ReadsS.more (h : ReadsS B w cs s O L) (hB : B ≤ B') : ReadsS B' w cs s O L :=
  ⟨h.cs, h.on, h.oc, h.om, h.o.more hB, fun z hz => (h.l z hz).more hB, h.lc, h.ow, h.lw, h.pw, h.gw⟩
theorem ReadsS.grow (h : ReadsS w.heap.size w cs s O L) (hb : Below w.heap.size w w') : ReadsS w'.heap.size w' cs s O L := (h.below hb).more hb.size
theorem ReadsS.size (h : ReadsS B w cs s O L) : cs.size = 37 := by rw [h.cs, stC_size]
theorem ReadsS.one (h : ReadsS B w cs s O L) : cs.all (·.oneCell') = true := by rw [h.cs]; exact stC_one _ _ _ _
end
theorem size37 : (Try.prog.info? 29).map (·.size) = some 37 := by kernel_rfl
theorem st_size18 : (Try.prog.info? 52).map (·.size) = some 18 := by kernel_rfl
/-- Block g is a state's box. -/
def StAt (w : World) (g : Nat) (cs : Array Value) : Prop := w.heap[g]? = some (.cells cs 29 (0, 0))
section
variable {w w' : World} {g : Nat} {cs : Array Value}
theorem StAt.new (w : World) (cs : Array Value) : StAt (w.alloc (.cells cs 29)) w.heap.size cs := heap_alloc_new _ _
theorem StAt.lt (h : StAt w g cs) : g < w.heap.size := (Array.getElem?_eq_some_iff.1 h).1
theorem StAt.keep (h : StAt w g cs) (hb : Below w.heap.size w w') : StAt w' g cs := (hb.block g h.lt).trans h
theorem StAt.cell (h : StAt w g cs) (i : Nat) : w.cell? ⟨g, i, none⟩ = cs[i]? := cell_of_row w g i cs 29 (0, 0) h
end
end Go.Proofs.Ytmneajmedopheaa
namespace Go.Proofs.Ytmneajmedopheaa
open Go.RowKit Ex
set_option maxRecDepth 100000
theorem st_zero18 : #[Value.int .i64 0, Value.int .i64 0, Value.int .i64 0, Value.int .i64 0, Value.int .i64 0, Value.int .i64 0, Value.int .i64 0, Value.int .i64 0, Value.int .i64 0, Value.int .i64 0, Value.int .i64 0, Value.int .i64 0, Value.int .i64 0, Value.int .i64 0, Value.int .i64 0, Value.int .i64 0, Value.int .i64 0, Value.int .i64 0] = arr .i64 18 (fun _ => 0) := (arr_zero .i64 18).symm
theorem load_obj {ops : Array Oper} {rest : List Oper} {op : Oper} {a : Act} {w : World} {Q : Exit → Act → World → Prop} (hgd : op.guard = none) (x : Operand) (ho : op.op = .load 52 x)
    (b o : Nat) (hx : a.eval x = .pointer (some ⟨b, o, none⟩)) (f : Nat → Int) (h : w.rangeAt b o (arr .i64 18 f).toList)
    (hK : wpList Try.prog ops Q rest (a.put op.dst (.agg (arr .i64 18 f))) w) : wpList Try.prog ops Q (op :: rest) a w := by
  refine wpList_load_mid hgd 52 x ho b o hx (arr .i64 18 f).toList _ h Try.underlying52 rfl (by rw [Array.length_toList, arr_size]; exact st_size18) ?_
  rw [Array.toArray_toList]
  exact hK
theorem RdO.at_ {B : Nat} {w : World} {A : Option Addr} {l : List (Nat → Int)} (h : RdO B w A l) {i : Nat} (hi : i < l.length) : ∃ b off, A = some ⟨b, off, none⟩ ∧ b < B ∧ w.rangeAt b (off + i * 18) (arr .i64 18 l[i]).toList :=
  h i _ (List.getElem?_eq_getElem hi)
/-- Block g is an object's box. -/
def ObAt (w : World) (g : Nat) (f : Nat → Int) : Prop := w.heap[g]? = some (.cells (arr .i64 18 f) 52 (0, 0))
theorem ob_box (wr : World) (f : Nat → Int) : ∃ w3, w3 = (wr.alloc (.cells (arr .i64 18 fun _ => 0) 52)).setRow wr.heap.size (arr .i64 18 f) ∧ ObAt w3 wr.heap.size f ∧ Below wr.heap.size wr w3 := by
  refine ⟨_, rfl, ?_, below_setRow ((Below.refl _ _).alloc (Nat.le_refl _) _) _ _ (Nat.le_refl _)⟩
  unfold ObAt
  exact setRow_heap _ _ _ _ _ _ (heap_alloc_new _ _)
theorem arr_box (n : Nat) (t : TypeId) (wr : World) (f : Nat → Int) : ∃ w3, w3 = (wr.alloc (.cells (arr .i64 n fun _ => 0) t)).setRow wr.heap.size (arr .i64 n f) ∧ ArrAt .i64 n t w3 wr.heap.size f ∧ Below wr.heap.size wr w3 := by
  refine ⟨_, rfl, ?_, below_setRow ((Below.refl _ _).alloc (Nat.le_refl _) _) _ _ (Nat.le_refl _)⟩
  unfold ArrAt
  exact setRow_heap _ _ _ _ _ _ (heap_alloc_new _ _)
theorem st_zero9 : #[Value.int .i64 0, Value.int .i64 0, Value.int .i64 0, Value.int .i64 0, Value.int .i64 0, Value.int .i64 0, Value.int .i64 0, Value.int .i64 0, Value.int .i64 0] = arr .i64 9 (fun _ => 0) := (arr_zero .i64 9).symm
theorem zero7 : #[Value.int .i64 0, Value.int .i64 0, Value.int .i64 0, Value.int .i64 0, Value.int .i64 0, Value.int .i64 0, Value.int .i64 0] = arr .i64 7 (fun _ => 0) := (arr_zero .i64 7).symm
theorem st_size9 : (Try.prog.info? 25).map (·.size) = some 9 := by kernel_rfl
theorem st_size7 : (Try.prog.info? 27).map (·.size) = some 7 := by kernel_rfl
theorem load_nine {ops : Array Oper} {rest : List Oper} {op : Oper} {a : Act} {w : World} {Q : Exit → Act → World → Prop} (hgd : op.guard = none) (x : Operand) (ho : op.op = .load 25 x)
    (b o : Nat) (hx : a.eval x = .pointer (some ⟨b, o, none⟩)) (f : Nat → Int) (h : w.rangeAt b o (arr .i64 9 f).toList)
    (hK : wpList Try.prog ops Q rest (a.put op.dst (.agg (arr .i64 9 f))) w) : wpList Try.prog ops Q (op :: rest) a w := by
  refine wpList_load_mid hgd 25 x ho b o hx (arr .i64 9 f).toList _ h Try.underlying25 rfl (by rw [Array.length_toList, arr_size]; exact st_size9) ?_
  rw [Array.toArray_toList]
  exact hK
theorem load_seven {ops : Array Oper} {rest : List Oper} {op : Oper} {a : Act} {w : World} {Q : Exit → Act → World → Prop} (hgd : op.guard = none) (x : Operand) (ho : op.op = .load 27 x)
    (b o : Nat) (hx : a.eval x = .pointer (some ⟨b, o, none⟩)) (f : Nat → Int) (h : w.rangeAt b o (arr .i64 7 f).toList)
    (hK : wpList Try.prog ops Q rest (a.put op.dst (.agg (arr .i64 7 f))) w) : wpList Try.prog ops Q (op :: rest) a w := by
  refine wpList_load_mid hgd 27 x ho b o hx (arr .i64 7 f).toList _ h Try.underlying27 rfl (by rw [Array.length_toList, arr_size]; exact st_size7) ?_
  rw [Array.toArray_toList]
  exact hK
theorem StAt.pl {w : World} {g : Nat} {O : SlT} {L : Nat → SlT} {p q : Nat → Int} (h : StAt w g (stC O L p q)) {j : Nat} (hj : j < 2) : w.rangeAt g (12 + j * 9) (arr .i64 9 fun i => p (j * 9 + i)).toList := fun i v hv => by
  have hi : i < 9 := by have := (List.getElem?_eq_some_iff.1 hv).1; rw [Array.length_toList, arr_size] at this; exact this
  rw [Array.getElem?_toList, arr_get .i64 9 _ hi] at hv
  rw [h.cell, show 12 + j * 9 + i = 12 + (j * 9 + i) by omega, stC_pl _ _ _ _ (by omega)]
  exact hv
theorem StAt.gm {w : World} {g : Nat} {O : SlT} {L : Nat → SlT} {p q : Nat → Int} (h : StAt w g (stC O L p q)) : w.rangeAt g 30 (arr .i64 7 q).toList := fun i v hv => by
  have hi : i < 7 := by have := (List.getElem?_eq_some_iff.1 hv).1; rw [Array.length_toList, arr_size] at this; exact this
  rw [Array.getElem?_toList, arr_get .i64 7 _ hi] at hv
  rw [h.cell, stC_gm _ _ _ _ hi]
  exact hv
theorem ReadsS.at_list {B : Nat} {w : World} {cs : Array Value} {s : StT} {O : SlT} {L : Nat → SlT} (h : ReadsS B w cs s O L) {z : Nat} (hz : z < 11) :
    ∃ A n c, cs[1 + z]? = some (.slice A n c) ∧ n ≤ c ∧ Nums .i64 w B A n (s.lists z) :=
  ⟨(L z).A, (L z).n, (L z).c, by rw [h.cs]; exact stC_list _ _ _ _ hz, h.lc z hz, h.l z hz⟩
end Go.Proofs.Ytmneajmedopheaa
namespace Go.Proofs.Ytmneajmedopheaa
open Go.RowKit Ex
set_option maxRecDepth 100000
def longS (s : StT) (most : Int) : Bool := decide (most < s.objs.length) || (List.range 11).any fun z => decide (most + 10 < ((s.lists z).length : Int))
theorem size11 : (Try.prog.info? 24).map (·.size) = some 11 := by kernel_rfl
theorem load_lists {ops : Array Oper} {rest : List Oper} {op : Oper} {a : Act} {w : World} {Q : Exit → Act → World → Prop} (hgd : op.guard = none) (x : Operand) (ho : op.op = .load 24 x)
    (b o : Nat) (hx : a.eval x = .pointer (some ⟨b, o, none⟩)) (xs : Array Value) (hs : xs.size = 11) (h : w.rangeAt b o xs.toList)
    (hK : wpList Try.prog ops Q rest (a.put op.dst (.agg xs)) w) : wpList Try.prog ops Q (op :: rest) a w := by
  refine wpList_load_mid hgd 24 x ho b o hx xs.toList _ h Try.underlying24 rfl (by rw [Array.length_toList, hs]; exact size11) ?_
  rw [Array.toArray_toList]
  exact hK
theorem StAt.ls {w : World} {g : Nat} {O : SlT} {L : Nat → SlT} {p q : Nat → Int} (h : StAt w g (stC O L p q)) : w.rangeAt g 1 (sl11 L).toList := fun i v hv => by
  have hi : i < 11 := by have := (List.getElem?_eq_some_iff.1 hv).1; rw [Array.length_toList, sl11_size] at this; exact this
  rw [Array.getElem?_toList, sl11_get L hi] at hv
  rw [h.cell, stC_list _ _ _ _ hi]
  exact hv
theorem index_list (L : Nat → SlT) : ∀ z : Nat, z < 11 → ∀ w, (Instr.index 24 (.agg (sl11 L)) (.int .i64 (z : Int))).run Try.prog w = .ok (L z).v w
  | 0, _, _ => by kernel_rfl
  | 1, _, _ => by kernel_rfl
  | 2, _, _ => by kernel_rfl
  | 3, _, _ => by kernel_rfl
  | 4, _, _ => by kernel_rfl
  | 5, _, _ => by kernel_rfl
  | 6, _, _ => by kernel_rfl
  | 7, _, _ => by kernel_rfl
  | 8, _, _ => by kernel_rfl
  | 9, _, _ => by kernel_rfl
  | 10, _, _ => by kernel_rfl
theorem sl11_at (L : Nat → SlT) {z : Nat} (hz : z < 11) : ∃ A n c, (∀ w, (Instr.index 24 (.agg (sl11 L)) (.int .i64 (z : Int))).run Try.prog w = .ok (.slice A n c) w) ∧ n = (L z).n := ⟨_, _, _, index_list L z hz, rfl⟩
def NotL (s : StT) (most : Nat) (z : Nat) : Prop := ∀ y, y < z → decide (((most : Int) + 10) < ((s.lists y).length : Int)) = false
theorem longS_list {s : StT} {most z : Nat} (hz : z < 11) (h : most + 10 < (s.lists z).length) : longS s most = true := by
  have : ((List.range 11).any fun z => decide ((most : Int) + 10 < ((s.lists z).length : Int))) = true := List.any_eq_true.2 ⟨z, List.mem_range.2 hz, by simp; omega⟩
  rw [longS, this, Bool.or_true]
theorem longS_not {s : StT} {most : Nat} (ho : ¬ most < s.objs.length) (h : NotL s most 11) : longS s most = false := by
  have : ((List.range 11).any fun z => decide ((most : Int) + 10 < ((s.lists z).length : Int))) = false := by
    rw [List.any_eq_false]
    intro z hz
    rw [h z (List.mem_range.1 hz)]; simp
  rw [longS, this]
  simp; omega
set_option maxRecDepth 100000 in
set_option maxHeartbeats 0 in
theorem long_any (s : StT) (O : SlT) (L : Nat → SlT) (cs : Array Value) (most : Nat) (w : World) (B : Nat) (h : ReadsS B w cs s O L) (hm : most ≤ 1000) :
    Calls Try.prog 6 #[.agg cs, .int .i64 (most : Int)] w fun e w' => e = .returned (.bool (longS s most)) ∧ Below w.heap.size w w' := by
  go_enter Try.func6, Try.ntmps6
  have hcs := h.cs
  have c0 : cs[0]? = some (.slice O.A O.n O.c) := by rw [hcs]; exact stC_objs _ _ _ _
  have hOn := h.on
  have H := Lib.hid h
  clear h
  obtain ⟨A, n, c⟩ := O
  simp only at c0 hOn
  subst hOn
  have HC := Lib.hid hcs
  clear hcs
  go_upto_region 1 with fail
  have hs0 : StAt (w.alloc (.cells cs 29)) w.heap.size cs := StAt.new _ _
  have hb0 : Below w.heap.size w (w.alloc (.cells cs 29)) := (Below.refl _ _).alloc (Nat.le_refl _) _
  obtain ⟨w1, hw1⟩ : ∃ w1, w1 = w.alloc (.cells cs 29) := ⟨_, rfl⟩
  rw [← hw1] at hs0 hb0 ⊢
  clear hw1
  have c1 := (hs0.cell 0).trans c0
  have hra := hs0
  rw [HC.out] at hra
  have hra := hra.ls
  by_cases h4 : most < s.objs.length
  · have d4 : decide ((most : Int) < (s.objs.length : Int)) = true := by simp; omega
    have hf := Lib.hid (show longS s most = true by simp [longS, h4])
    go_wp2_with fail
    go_ret
    exact ⟨congrArg (fun b => Ending.returned (Value.bool b)) hf.out.symm, hb0⟩
  have d4 : decide ((most : Int) < (s.objs.length : Int)) = false := by simp; omega
  go_upto_region 4 with (refine load_lists rfl (.tmp 12) rfl w.heap.size 1 rfl (sl11 L) (sl11_size L) hra ?_)
  have hg0 : NotL s most 0 := fun y hy => absurd hy (by omega)
  go_loopw [14] (fun i wr => ∃ z : Nat, i = .int .i64 ((z : Nat) : Int) ∧ z ≤ 11 ∧ NotL s most z ∧ Below w.heap.size w wr) (fun i _ => 11 - (intOf i).toNat)
  case atStart => exact ⟨0, rfl, by omega, hg0, hb0⟩
  case round =>
    clear hb0 hs0 hg0 c1
    obtain ⟨z, rfl, hz, hgz, hbr⟩ := hrel
    by_cases hlt : z < 11
    · have hd : decide ((z : Int) < 11) = true := by simp; omega
      obtain ⟨A2, n2, c2, hc2, hn2⟩ := sl11_at L hlt
      have hln := (H.out.l z hlt).len
      rw [← hn2] at hln
      clear hn2
      by_cases hq : most + 10 < n2
      · have dq : decide ((most : Int) + 10 < (n2 : Int)) = true := by simp; omega
        have hf := Lib.hid (longS_list hlt (hln.symm ▸ hq))
        go_wp2_with fail
        go_ret
        exact ⟨congrArg (fun b => Ending.returned (Value.bool b)) hf.out.symm, hbr⟩
      · have dq : decide ((most : Int) + 10 < (n2 : Int)) = false := by simp; omega
        have hgz2 : NotL s most (z + 1) := fun y hy => by
          by_cases e : y = z
          · subst e; rw [hln]; exact dq
          · exact hgz y (by omega)
        go_wp2_with fail
        go_roundw
        case rel => exact ⟨z + 1, by go_num, by omega, hgz2, hbr⟩
        case measure => simp [intOf]; omega
    · obtain rfl : z = 11 := by omega
      have hf := Lib.hid (longS_not h4 hgz)
      go_wp2_with fail
      go_ret
      exact ⟨congrArg (fun b => Ending.returned (Value.bool b)) hf.out.symm, hbr⟩
end Go.Proofs.Ytmneajmedopheaa
namespace Go.Proofs.Ytmneajmedopheaa
open Go.RowKit Ex
set_option maxRecDepth 100000
/-- Nil eleven times, and zeros. -/
def nilS : SlT := ⟨none, 0, 0⟩
def st0 : Array Value := stC nilS (fun _ => nilS) (fun _ => 0) (fun _ => 0)
def sT0 : StT := ⟨[], fun _ => [], fun _ => 0, fun _ => 0⟩
theorem reads_0 (B : Nat) (w : World) : ReadsS B w st0 sT0 nilS (fun _ => nilS) :=
  ⟨rfl, rfl, Nat.le_refl _, by simp [nilS], fun i o hi => by simp [sT0] at hi, fun z _ => Nums.none_, fun z _ => Nat.le_refl _, fun o ho => by simp [sT0] at ho, fun z _ x hx => by simp [sT0] at hx, fun i _ => by simp [N64, sT0], fun i _ => by simp [N64, sT0]⟩
theorem build0 (W : World) : (Instr.build 29 #[]).run Try.prog W = .ok (.agg st0) W := by kernel_rfl
theorem st0_is : (Value.slice none 0 0 :: Value.slice none 0 0 :: Value.slice none 0 0 :: Value.slice none 0 0 :: Value.slice none 0 0 :: Value.slice none 0 0 :: Value.slice none 0 0 :: Value.slice none 0 0 :: Value.slice none 0 0 :: Value.slice none 0 0 :: Value.slice none 0 0 :: Value.slice none 0 0 :: Value.int .i64 0 :: Value.int .i64 0 :: Value.int .i64 0 :: Value.int .i64 0 :: Value.int .i64 0 :: Value.int .i64 0 :: Value.int .i64 0 :: Value.int .i64 0 :: Value.int .i64 0 :: Value.int .i64 0 :: Value.int .i64 0 :: Value.int .i64 0 :: Value.int .i64 0 :: Value.int .i64 0 :: Value.int .i64 0 :: Value.int .i64 0 :: Value.int .i64 0 :: Value.int .i64 0 :: Value.int .i64 0 :: Value.int .i64 0 :: Value.int .i64 0 :: Value.int .i64 0 :: Value.int .i64 0 :: Value.int .i64 0 :: Value.int .i64 0 :: []).toArray = st0 := by kernel_rfl
theorem wpList_build0 {ops : Array Oper} {rest : List Oper} {o : Oper} {a : Act} {w : World} {Q : Exit → Act → World → Prop} (hg : o.guard = none) (ho : o.op = .build 29 #[])
    (hK : wpList Try.prog ops Q rest (a.put o.dst (.agg st0)) w) : wpList Try.prog ops Q (o :: rest) a w := by
  refine wpList_plain hg fun K' hK' => ?_
  unfold Oper.wp
  simp [execOp, ho, build0, Result.andThen]
  exact hK' _ _ hK
theorem index_obj (f : Nat → Int) : ∀ i : Nat, i < 18 → ∀ w, (Instr.index 52 (.agg (arr .i64 18 f)) (.int .i64 (i : Int))).run Try.prog w = .ok (.int .i64 (f i)) w
  | 0, _, _ => by kernel_rfl
  | 1, _, _ => by kernel_rfl
  | 2, _, _ => by kernel_rfl
  | 3, _, _ => by kernel_rfl
  | 4, _, _ => by kernel_rfl
  | 5, _, _ => by kernel_rfl
  | 6, _, _ => by kernel_rfl
  | 7, _, _ => by kernel_rfl
  | 8, _, _ => by kernel_rfl
  | 9, _, _ => by kernel_rfl
  | 10, _, _ => by kernel_rfl
  | 11, _, _ => by kernel_rfl
  | 12, _, _ => by kernel_rfl
  | 13, _, _ => by kernel_rfl
  | 14, _, _ => by kernel_rfl
  | 15, _, _ => by kernel_rfl
  | 16, _, _ => by kernel_rfl
  | 17, _, _ => by kernel_rfl
  | _ + 18, h, _ => absurd h (by omega)
theorem index_nine (f : Nat → Int) : ∀ i : Nat, i < 9 → ∀ w, (Instr.index 25 (.agg (arr .i64 9 f)) (.int .i64 (i : Int))).run Try.prog w = .ok (.int .i64 (f i)) w
  | 0, _, _ => by kernel_rfl
  | 1, _, _ => by kernel_rfl
  | 2, _, _ => by kernel_rfl
  | 3, _, _ => by kernel_rfl
  | 4, _, _ => by kernel_rfl
  | 5, _, _ => by kernel_rfl
  | 6, _, _ => by kernel_rfl
  | 7, _, _ => by kernel_rfl
  | 8, _, _ => by kernel_rfl
  | _ + 9, h, _ => absurd h (by omega)
theorem index_seven (f : Nat → Int) : ∀ i : Nat, i < 7 → ∀ w, (Instr.index 27 (.agg (arr .i64 7 f)) (.int .i64 (i : Int))).run Try.prog w = .ok (.int .i64 (f i)) w
  | 0, _, _ => by kernel_rfl
  | 1, _, _ => by kernel_rfl
  | 2, _, _ => by kernel_rfl
  | 3, _, _ => by kernel_rfl
  | 4, _, _ => by kernel_rfl
  | 5, _, _ => by kernel_rfl
  | 6, _, _ => by kernel_rfl
  | _ + 7, h, _ => absurd h (by omega)
theorem index_two (f : Nat → Int) : ∀ i : Nat, i < 2 → ∀ w, (Instr.index 26 (.agg (arr .i64 18 f)) (.int .i64 (i : Int))).run Try.prog w = .ok (.agg (arr .i64 9 fun j => f (i * 9 + j))) w
  | 0, _, _ => by kernel_rfl
  | 1, _, _ => by kernel_rfl
  | _ + 2, h, _ => absurd h (by omega)
theorem size18p : (Try.prog.info? 26).map (·.size) = some 18 := by kernel_rfl
theorem load_two {ops : Array Oper} {rest : List Oper} {op : Oper} {a : Act} {w : World} {Q : Exit → Act → World → Prop} (hgd : op.guard = none) (x : Operand) (ho : op.op = .load 26 x)
    (b o : Nat) (hx : a.eval x = .pointer (some ⟨b, o, none⟩)) (f : Nat → Int) (h : w.rangeAt b o (arr .i64 18 f).toList)
    (hK : wpList Try.prog ops Q rest (a.put op.dst (.agg (arr .i64 18 f))) w) : wpList Try.prog ops Q (op :: rest) a w := by
  refine wpList_load_mid hgd 26 x ho b o hx (arr .i64 18 f).toList _ h Try.underlying26 rfl (by rw [Array.length_toList, arr_size]; exact size18p) ?_
  rw [Array.toArray_toList]
  exact hK
theorem StAt.two {w : World} {g : Nat} {O : SlT} {L : Nat → SlT} {p q : Nat → Int} (h : StAt w g (stC O L p q)) : w.rangeAt g 12 (arr .i64 18 p).toList := fun i v hv => by
  have hi : i < 18 := by have := (List.getElem?_eq_some_iff.1 hv).1; rw [Array.length_toList, arr_size] at this; exact this
  rw [Array.getElem?_toList, arr_get .i64 18 _ hi] at hv
  rw [h.cell, stC_pl _ _ _ _ hi]
  exact hv
theorem load_objW {ops : Array Oper} {rest : List Oper} {op : Oper} {a : Act} {w : World} {Q : Exit → Act → World → Prop} (hw : Region.wanted op (yielded ops a.tmps) = true) (x : Operand) (ho : op.op = .load 52 x)
    (b o : Nat) (hx : a.eval x = .pointer (some ⟨b, o, none⟩)) (f : Nat → Int) (h : w.rangeAt b o (arr .i64 18 f).toList)
    (hK : wpList Try.prog ops Q rest (a.put op.dst (.agg (arr .i64 18 f))) w) : wpList Try.prog ops Q (op :: rest) a w := by
  refine BigFrame.wpList_want hw fun _ hK' => wp_load_mid 52 x ho b o hx (arr .i64 18 f).toList _ h Try.underlying52 rfl (by rw [Array.length_toList, arr_size]; exact st_size18) (hK' _ _ ?_)
  rw [Array.toArray_toList]
  exact hK
theorem list_at {B : Nat} {w : World} {cs : Array Value} {s : StT} {O : SlT} {L : Nat → SlT} (h : ReadsS B w cs s O L) {z : Nat} (hz : z < 11) :
    ∃ A n c, (∀ w, (Instr.index 24 (.agg (sl11 L)) (.int .i64 (z : Int))).run Try.prog w = .ok (.slice A n c) w) ∧ n ≤ c ∧ Nums .i64 w B A n (s.lists z) := ⟨_, _, _, index_list L z hz, h.lc z hz, h.l z hz⟩
end Go.Proofs.Ytmneajmedopheaa
