/- Slices of numbers: which list one reads as; one of the call's own; append, make, string, a cut. Over any program. -/
import Derived.Below
import Derived.Laws.OwnMore
import Derived.Laws.BytesArg
import Derived.Maps.AppendAt
import Derived.Deep.Draws
import Derived.OwnWalk
import Derived.WalkKit
namespace Go.Proofs.YtplfblccaeligaaDoor
open Go.RowKit

/-- The slice of n at A reads as the list l, all of it below block B. -/
def Nums (k : IntKind) (w : World) (B : Nat) (A : Option Addr) (n : Nat) (l : List Int) : Prop :=
  l.length = n ∧ ∀ i u, l[i]? = some u → ∃ a, A = some a ∧ a.block < B ∧ w.cell? (a.add i) = some (.int k u)
/-- The slice is the call's own, from block base on, and reads as l. -/
def Own (k : IntKind) (e : TypeId) (w : World) (base : Nat) (A : Option Addr) (n c : Nat) (l : List Int) : Prop :=
  l.length = n ∧ w.ownsRow base e 1 (.slice A n c) n (l.map (Value.int k))

theorem addr_block (a : Addr) (n : Nat) : (a.add n).block = a.block := by unfold Addr.add; split <;> rfl
theorem addr_add (a : Addr) (i j : Nat) : (a.add i).add j = a.add (i + j) := by
  unfold Addr.add
  by_cases hi : i = 0 <;> by_cases hj : j = 0 <;> simp [hi, hj, Nat.add_assoc]

section
variable {k : IntKind} {w w' : World} {B B' n : Nat} {A : Option Addr} {l : List Int}
theorem Nums.len (h : Nums k w B A n l) : l.length = n := h.1
theorem Nums.none_ : Nums k w B A 0 [] := ⟨rfl, fun i u h => by simp at h⟩
theorem Nums.at_ (h : Nums k w B A n l) {i : Nat} (hi : i < l.length) : ∃ a, A = some a ∧ a.block < B ∧ w.cell? (a.add i) = some (.int k l[i]) :=
  h.2 i _ (List.getElem?_eq_getElem hi)
theorem Nums.keep (h : Nums k w B A n l) (hk : ∀ p : Addr, p.block < B → w'.cell? p = w.cell? p) : Nums k w' B A n l :=
  ⟨h.1, fun i u hu => by
    obtain ⟨a, e, hb, hc⟩ := h.2 i u hu
    exact ⟨a, e, hb, (hk _ (by rw [addr_block]; exact hb)).trans hc⟩⟩
theorem Nums.below (h : Nums k w B A n l) (hb : Below B w w') : Nums k w' B A n l := h.keep fun _ hp => hb.cell hp
theorem Nums.belowL (h : Nums k w B A n l) (hb : Below B' w w') (hB : B ≤ B') : Nums k w' B A n l := h.below (hb.mono hB)
theorem Nums.more (h : Nums k w B A n l) (hB : B ≤ B') : Nums k w B' A n l :=
  ⟨h.1, fun i u hu => by
    obtain ⟨a, e, hb, hc⟩ := h.2 i u hu
    exact ⟨a, e, by omega, hc⟩⟩
theorem Nums.drew (h : Nums k w B A n l) : Nums k w.drew B A n l := h
theorem Nums.drewN (h : Nums k w B A n l) (m : Nat) : Nums k (w.drewN m) B A n l := h
theorem Nums.alloc (h : Nums k w B A n l) (hB : B ≤ w.heap.size) (o : Obj) : Nums k (w.alloc o) B A n l := h.keep fun p hp => World.cell?_alloc_lt w o p (by omega)
theorem Nums.cut (h : Nums k w B A n l) {i c : Nat} (hi : i ≤ n) (hc : n ≤ c) : Nums k w B (if c = i then A else A.map (·.add (i * 1))) (n - i) (l.drop i) := by
  refine ⟨by rw [List.length_drop, h.1], fun j u hu => ?_⟩
  rw [List.getElem?_drop] at hu
  obtain ⟨a, rfl, hb, hcell⟩ := h.2 _ _ hu
  have hlt : i + j < l.length := (List.getElem?_eq_some_iff.1 hu).1
  have := h.1
  rw [if_neg (by omega)]
  exact ⟨a.add i, by simp, by rw [addr_block]; exact hb, by rw [addr_add]; exact hcell⟩
theorem Nums.first (h : Nums k w B A n l) {i : Nat} (hi : i ≤ n) : Nums k w B A i (l.take i) := by
  refine ⟨by rw [List.length_take, h.1]; omega, fun j u hu => ?_⟩
  rw [List.getElem?_take] at hu
  split at hu
  · exact h.2 j u hu
  · cases hu
theorem Nums.one (w : World) (k : IntKind) (x : Int) (t : TypeId) : Nums k (w.alloc (.cells #[.int k x] t)) (w.heap.size + 1) (some ⟨w.heap.size, 0, none⟩) 1 [x] := by
  refine ⟨rfl, fun i u hu => ⟨_, rfl, by simp, ?_⟩⟩
  exact cell_one_new w (.int k x) t i (.int k u) (by
    match i, hu with
    | 0, hu => simp at hu; simp [hu])
theorem Nums.byBlock (h : Nums k w B A n l) : Nums k w w.heap.size A n l :=
  ⟨h.1, fun i u hu => by
    obtain ⟨a, e, hb, hc⟩ := h.2 i u hu
    exact ⟨a, e, by have := World.block_lt_of_cell? w _ hc; rw [addr_block] at this; exact this, hc⟩⟩

theorem Nums.loads {P : Program} {a : Addr} (h : Nums k w B (some a) n l) : (loadCells a n).run P w = .ok (l.map (Value.int k)).toArray w := by
  have hh := run_loadCells_list (P := P) w a (l.map (Value.int k)) (fun j v hj => by
    rw [List.getElem?_map, Option.map_eq_some_iff] at hj
    obtain ⟨u, hu, rfl⟩ := hj
    obtain ⟨a', e, _, hc⟩ := h.2 j u hu
    injection e with e
    subst e
    exact hc)
  rw [List.length_map, h.1] at hh
  exact hh
end

/-- 'string(b)' of a slice of bytes, nil or not. -/
theorem run_string_of {P : Program} {w : World} {B n c : Nat} {A : Option Addr} {l : List Int} (h : Nums .u8 w B A n l) {src dst e : TypeId}
    (hs : P.underlying src = some (.slice e)) (he : P.underlying e = some (.int .u8)) (hd : P.underlying dst = some .string) :
    (convert src dst (.slice A n c)).run P w = .ok (.string (strOfNums l)) w := by
  rcases A with _ | a
  · have hl : l = [] := by
      cases l with
      | nil => rfl
      | cons x r => obtain ⟨a, e, _⟩ := h.2 0 x (by simp); cases e
    subst hl
    rw [run_convert_bytes_nil w src e hs he n c dst hd]
    rfl
  · rw [run_convert_bytes_string w src dst e _ n c hs he hd, run_bytesToString w a n c l (by exact h.loads), foldl_push_bytes]
    simp [strOfNums, ByteArray.empty, ByteArray.emptyWithCapacity]
    rfl

section
variable {k : IntKind} {e : TypeId} {w w' : World} {base n c : Nat} {A : Option Addr} {l : List Int}
theorem Own.len (h : Own k e w base A n c l) : l.length = n := h.1
theorem Own.nil (w : World) : Own k e w base none 0 0 [] := ⟨rfl, World.ownsRow_nil w base e 1⟩
theorem Own.cap (h : Own k e w base A n c l) : n ≤ c := by
  rcases h.2.2 with ⟨hv, hn⟩ | ⟨g, cap, cur, hv, _, _, hc, _⟩
  · omega
  · injection hv with h1 h2 h3; omega
theorem Own.capMax (h : Own k e w base A n c l) : c ≤ maxLen := by
  rcases h.2.2 with ⟨hv, hn⟩ | ⟨g, cap, cur, hv, _, _, _, hc, _⟩
  · injection hv with h1 h2 h3; omega
  · injection hv with h1 h2 h3; omega
theorem Own.nums (h : Own k e w base A n c l) : Nums k w w.heap.size A n l := by
  refine ⟨h.1, fun i u hu => ?_⟩
  have hlt : i < l.length := (List.getElem?_eq_some_iff.1 hu).1
  have := h.1
  rcases h.2.2 with ⟨hv, hn⟩ | ⟨g, cap, cur, hv, hb, hg, _⟩
  · omega
  · injection hv with h1 h2 h3
    subst h1
    refine ⟨_, rfl, (Array.getElem?_eq_some_iff.1 hg).1, ?_⟩
    exact h.2.cells (g := g) rfl i (.int k u) (by rw [List.getElem?_map, hu]; rfl)
theorem Own.drew (h : Own k e w base A n c l) : Own k e w.drew base A n c l := h
theorem Own.drewN (h : Own k e w base A n c l) (m : Nat) : Own k e (w.drewN m) base A n c l := h
theorem Own.alloc (h : Own k e w base A n c l) (o : Obj) : Own k e (w.alloc o) base A n c l := ⟨h.1, h.2.alloc o⟩
theorem Own.below (h : Own k e w base A n c l) {B : Nat} (hb : Below B w w') (hB : w.heap.size ≤ B) : Own k e w' base A n c l := by
  refine ⟨h.1, h.2.1, ?_⟩
  rcases h.2.2 with hv | ⟨g, cap, cur, hv, hbs, hg, rest⟩
  · exact .inl hv
  · exact .inr ⟨g, cap, cur, hv, hbs, by rw [hb.block g (by have := (Array.getElem?_eq_some_iff.1 hg).1; omega)]; exact hg, rest⟩
theorem Own.base_le (h : Own k e w base A n c l) {b : Nat} (hb : b ≤ base) : Own k e w b A n c l := by
  refine ⟨h.1, h.2.1, ?_⟩
  rcases h.2.2 with hv | ⟨g, cap, cur, hv, hbs, rest⟩
  · exact .inl hv
  · exact .inr ⟨g, cap, cur, hv, by omega, rest⟩
theorem Own.ownLt (h : Own k e w base A n c l) : ∀ g, (Value.slice A n c).ownBlock = some g → base ≤ g := fun g hg => (h.2.lt g hg).1
theorem Own.belowGrown (h : Own k e w base A n c l) {a : World} (hb : Below base a w) (hbase : base ≤ w.heap.size) (hg : w.grownBy w' (Value.slice A n c).ownBlock) : Below base a w' :=
  hb.grown hg hbase (fun g hh => h.ownLt g hh)
end

theorem run_app_nil {P : Program} (w : World) (base : Nat) (t ty e : TypeId) (i : TypeInfo) (ht : P.underlying t = some (.slice e)) (hi : P.info? e = some i)
    (v : Value) (n : Nat) (xs : List Value) (hown : w.ownsRow base e 1 v n xs) (c : Nat) : (Builtin.append_ #[t, t] ty #[v, .slice none 0 c]).run P w = .ok v w := by
  rcases hown.2 with ⟨rfl, rfl⟩ | ⟨g, cap, cur, rfl, _, _, hnc, _⟩
  · simp [Builtin.append_, run_underlying ht, sizeOf, typeInfo, hi, Builtin.lenOf, Builtin.firstCells]
  · simp [Builtin.append_, run_underlying ht, sizeOf, typeInfo, hi, Builtin.lenOf, Builtin.firstCells, hnc, storeCells]
theorem ints_one (k : IntKind) (l : List Int) : ∀ u ∈ l.map (Value.int k), u.oneCell' = true := by
  intro u hu; obtain ⟨n, _, rfl⟩ := List.mem_map.1 hu; rfl

/-- append of any slice of numbers to one of the call's own. -/
theorem run_app {P : Program} (w : World) (k : IntKind) (base : Nat) (t ty e : TypeId) (i : TypeInfo) (z : Value) (bytes : Nat) (ht : P.underlying t = some (.slice e)) (hi : P.info? e = some i) (hz : i.zero = some z)
    (hsize : i.size = 1) (hby : i.bytes = bytes) (hzs : z.cells.size = 1)
    {A : Option Addr} {n c : Nat} {l : List Int} (hown : Own k e w base A n c l) {B : Nat} {A2 : Option Addr} {m c2 : Nat} {l2 : List Int} (h2 : Nums k w B A2 m l2)
    (hsm : n + m ≤ 4294967296) (hb8 : bytes ≤ 8) (hbase : base ≤ w.heap.size) :
    ∃ A' c' w', (Builtin.append_ #[t, t] ty #[.slice A n c, .slice A2 m c2]).run P w = .ok (.slice A' (n + m) c') w' ∧ Own k e w' base A' (n + m) c' (l ++ l2) ∧ w.grownBy w' (Value.slice A n c).ownBlock := by
  have hlen : (l ++ l2).length = n + m := by rw [List.length_append, hown.1, h2.1]
  rcases A2 with _ | ad
  · have hl2 : l2 = [] := by
      cases l2 with
      | nil => rfl
      | cons x r => obtain ⟨a, e, _⟩ := h2.2 0 x (by simp); cases e
    subst hl2
    obtain rfl : m = 0 := by have := h2.1; simpa using this.symm
    exact ⟨A, c, w, run_app_nil w base t ty e i ht hi _ n _ hown.2 c2, by simpa using hown, World.grownBy.refl w _⟩
  · obtain ⟨v', w', hrun, h3, h4, _, _⟩ := run_append_own_at (P := P) w base t ty e i z 1 bytes ht hi hz hsize hby hzs (by omega) (.slice A n c) n (l.map (Value.int k)) hown.2 ad m c2 (l2.map (Value.int k))
      (by rw [List.length_map, h2.1]; omega)
      (fun j u hj => by
        rw [List.getElem?_map, Option.map_eq_some_iff] at hj
        obtain ⟨x, hx, rfl⟩ := hj
        obtain ⟨a, ea, _, hc⟩ := h2.2 j x hx
        injection ea with ea
        subst ea
        exact hc) (ints_one k l2) (by unfold maxLen; omega)
      (by have : (n + m) * bytes ≤ 4294967296 * 8 := Nat.mul_le_mul hsm hb8
          omega) hbase
    rw [← List.map_append] at h3
    rcases h3.2 with ⟨rfl, hn⟩ | ⟨g, cap, cur, rfl, rest⟩
    · rw [hn] at h3 ⊢
      refine ⟨none, 0, w', hrun, ⟨by omega, h3⟩, h4⟩
    · exact ⟨_, cap, w', hrun, ⟨hlen, h3⟩, h4⟩

theorem wpList_app {P : Program} {w : World} {ops : Array Oper} {rest : List Oper} {o : Oper} {a : Act} {Q : Exit → Act → World → Prop} (hgd : o.guard = none) (s x : Operand) (t : TypeId)
    (ho : o.op = .call { callee := .builtin .append, args := #[s, x], argTypes := #[t, t] })
    (k : IntKind) (base : Nat) (e : TypeId) (i : TypeInfo) (z : Value) (bytes : Nat) (ht : P.underlying t = some (.slice e)) (hi : P.info? e = some i) (hz : i.zero = some z)
    (hsize : i.size = 1) (hby : i.bytes = bytes) (hzs : z.cells.size = 1)
    (A : Option Addr) (n c : Nat) (l : List Int) (hs : a.eval s = .slice A n c) (hown : Own k e w base A n c l)
    (B : Nat) (A2 : Option Addr) (m c2 : Nat) (l2 : List Int) (hx : a.eval x = .slice A2 m c2) (h2 : Nums k w B A2 m l2)
    (hsm : n + m ≤ 4294967296) (hb8 : bytes ≤ 8) (hbase : base ≤ w.heap.size)
    (h : ∀ A' c' w', Own k e w' base A' (n + m) c' (l ++ l2) → w.grownBy w' (Value.slice A n c).ownBlock → wpList P ops Q rest (a.put o.dst (.slice A' (n + m) c')) w') :
    wpList P ops Q (o :: rest) a w := by
  refine wpList_plain hgd fun K hK => ?_
  obtain ⟨A', c', w', hr, h3, h4⟩ := run_app (P := P) w k base t o.type e i z bytes ht hi hz hsize hby hzs hown (c2 := c2) h2 hsm hb8 hbase
  unfold Oper.wp execOp
  simp only [ho, resolve, invoke, builtin, Sem.run_bind, Sem.run_pure, Result.andThen_ok, List.map_toArray, List.map_cons, List.map_nil, hs, hx, hr]
  exact hK _ _ (h A' c' w' h3 h4)

/-- make of no number, with room for N. -/
theorem wpList_mk {P : Program} (w : World) {ops : Array Oper} {rest : List Oper} {o : Oper} {a : Act} {Q : Exit → Act → World → Prop}
    (hg : o.guard = none) (l c : Operand) (t : TypeId) (hop : o.op = Op.makeSlice t l c)
    (k : IntKind) (base : Nat) (e : TypeId) (i : TypeInfo) (z : Value) (bytes : Nat) (h1 : P.underlying t = some (.slice e)) (h2 : P.info? e = some i) (h3 : i.zero = some z) (h4 : i.size = 1) (h5 : i.bytes = bytes)
    (kl kc : IntKind) (C : Int) (hl : a.eval l = .int kl 0) (hc : a.eval c = .int kc C) (hC0 : 0 ≤ C) (hC1 : C ≤ 4294967296) (hb8 : bytes ≤ 8) (hbase : base ≤ w.heap.size)
    (hK : ∀ w' g, Own k e w' base (some g) 0 C.toNat [] → w.grownBy w' none → wpList P ops Q rest (a.put o.dst (.slice (some g) 0 C.toNat)) w') :
    wpList P ops Q (o :: rest) a w := by
  obtain ⟨N, rfl⟩ := Int.eq_ofNat_of_zero_le hC0
  rw [Int.toNat_natCast] at hK
  have hb : i.bytes * N ≤ 281474976710656 := by
    rw [h5]
    have : bytes * N ≤ 8 * 4294967296 := Nat.mul_le_mul hb8 (by omega)
    omega
  exact wpList_make_own w hg l c t hop base e i z 1 h1 h2 h3 h4 kl kc N N hl hc rfl hb (by unfold maxLen; omega) hbase
    (fun w' r1 r2 => hK w' _ ⟨rfl, r1⟩ r2)

/-- 'b[i:]': somewhere, reading as what is left. -/
theorem cut_from {P : Program} {k : IntKind} {w : World} {B n c : Nat} {A : Option Addr} {l : List Int} (hN : Nums k w B A n l) (hc : n ≤ c) {i : Nat} (hi : i ≤ n) (t : TypeId) (ht : P.underlying t = some (.slice (P.elem t))) (hs : ∀ W, (sizeOf (P.elem t)).run P W = .ok 1 W) :
    ∃ A', (∀ W, (Instr.slice t (.slice A n c) (some (.int .i64 ((i : Nat) : Int))) none none).run P W = .ok (.slice A' (n - i) (c - i)) W) ∧ Nums k w B A' (n - i) (l.drop i) :=
  ⟨_, fun W => by
    rw [run_slice_l W t A n c ht .i64 (i : Int) (by omega) (by omega), hs]
    simp only [Result.andThen_ok, sliced, Int.toNat_natCast], hN.cut hi hc⟩
/-- 'b[:i]'. -/
theorem cut_to {P : Program} {k : IntKind} {w : World} {B n c : Nat} {A : Option Addr} {l : List Int} (hN : Nums k w B A n l) (hc : n ≤ c) {i : Nat} (hi : i ≤ n) (t : TypeId) (ht : P.underlying t = some (.slice (P.elem t))) (hs : ∀ W, (sizeOf (P.elem t)).run P W = .ok 1 W) :
    ∃ A', (∀ W, (Instr.slice t (.slice A n c) none (some (.int .i64 ((i : Nat) : Int))) none).run P W = .ok (.slice A' i c) W) ∧ Nums k w B A' i (l.take i) := by
  refine ⟨if c = 0 then A else A.map (·.add (0 * 1)), fun W => ?_, ?_⟩
  · rw [run_slice_h W t A n c ht .i64 (i : Int) (by omega) (by omega), hs]
    simp only [Result.andThen_ok, sliced, Int.toNat_natCast, Nat.sub_zero]
  · have h := (hN.cut (i := 0) (Nat.zero_le _) hc).first (show i ≤ n - 0 by omega)
    simpa using h
/-- '[]T{}'. -/
theorem own_empty {k : IntKind} {e : TypeId} (w : World) (base : Nat) (hb : base ≤ w.heap.size) : Own k e (w.alloc (.cells #[] e)) base (some ⟨w.heap.size, 0, none⟩) 0 0 [] :=
  ⟨rfl, World.ownsRow_made w #[] 0 hb (by unfold maxLen; omega) (by simp)⟩
end Go.Proofs.YtplfblccaeligaaDoor
