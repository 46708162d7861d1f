/- Layer 6: a copy that is written into: spoil. -/
import Derived.Test.YtmdfgkfimlmmnaaDoorTreeBase
namespace Go.Proofs.YtmdfgkfimlmmnaaDoor
open Go.RowKit Ex
/-- Blocks from B on, below N, may have turned; others stand. -/
structure Only (B N : Nat) (w w' : World) : Prop where
  os : w'.os = w.os
  tape : w'.tape = w.tape
  output : w'.output = w.output
  size : w.heap.size ≤ w'.heap.size
  block : ∀ k, k < w.heap.size → (k < B ∨ N ≤ k) → w'.heap[k]? = w.heap[k]?
theorem Only.trans {B N : Nat} {a b c : World} (h : Only B N a b) (k : Only B N b c) : Only B N a c :=
  ⟨k.os.trans h.os, k.tape.trans h.tape, k.output.trans h.output, Nat.le_trans h.size k.size, fun i hi ho => (k.block i (by have := h.size; omega) ho).trans (h.block i hi ho)⟩
theorem Only.of_below {B N : Nat} {w w' : World} (h : Below w.heap.size w w') : Only B N w w' := ⟨h.os, h.tape, h.output, h.size, fun k hk _ => h.block k hk⟩
theorem Only.below {B N : Nat} {w w' : World} (h : Only B N w w') (hB : B ≤ w.heap.size) : Below B w w' := ⟨h.os, h.tape, h.output, h.size, fun k hk => h.block k (by omega) (.inl hk)⟩
theorem Only.ev {B N : Nat} {w w' : World} {g : Nat} {cs : Array Value} (h : Only B N w w') (hg : N ≤ g) (he : EvAt w g cs) : EvAt w' g cs := (h.block g he.lt (.inr hg)).trans he
/-- An effect's cells lie in blocks from B on, below N, each effect in five cells of its own. -/
def Apart (B N : Nat) (w : World) : Nat → Array Value → Prop
  | 0, _ => False
  | d + 1, cs => ∃ op n m who A k c, cs = evC op n m who A k c ∧ k ≤ 1000000 ∧ ∀ i, i < k → ∃ b o xs, A = some ⟨b, o * 5, none⟩ ∧ B ≤ b ∧ b < N ∧ w.rangeAt b (o * 5 + i * 5) xs.toList ∧ w.frozen? ⟨b, o * 5 + i * 5 + 1, none⟩ = false ∧ Apart B N w d xs
theorem Apart.n_free {B N : Nat} {w : World} {d : Nat} {op n m who : Int} {A : Option Addr} {k c : Nat} (h : Apart B N w d (evC op n m who A k c)) (x : Int) : Apart B N w d (evC op x m who A k c) := by
  cases d with
  | zero => exact h
  | succ d =>
    obtain ⟨op', n', m', who', A', k', c', e, hk, hx⟩ := h
    simp only [evC, Array.mk.injEq, List.cons.injEq, Value.int.injEq, Value.slice.injEq, true_and, and_true] at e
    obtain ⟨_, _, _, _, rfl, rfl, rfl⟩ := e
    exact ⟨_, _, _, _, _, _, _, rfl, hk, hx⟩
theorem Apart.below {B N : Nat} {w w' : World} (hb : Below w.heap.size w w') : ∀ {d : Nat} {cs : Array Value}, N ≤ w.heap.size → Apart B N w d cs → Apart B N w' d cs
  | 0, _, _, h => h
  | d + 1, cs, hN, h => by
    obtain ⟨op, n, m, who, A, k, c, e, hk, hx⟩ := h
    refine ⟨op, n, m, who, A, k, c, e, hk, fun i hi => ?_⟩
    obtain ⟨b, o, xs, hA, hB, hbN, hra, hf, hap⟩ := hx i hi
    refine ⟨b, o, xs, hA, hB, hbN, rangeAt_below hb (by omega) hra, ?_, hap.below hb hN⟩
    rw [World.frozen?_of_block (hb.block b (by omega))]; exact hf
theorem Apart.set_ {B N : Nat} {w : World} (b0 q : Nat) (x : Int) : ∀ {d : Nat} {cs : Array Value}, Apart B N w d cs → Apart B N (w.setCell ⟨b0, q * 5 + 1, none⟩ (.int .i64 x)) d cs
  | 0, _, h => h
  | d + 1, cs, h => by
    obtain ⟨op, n, m, who, A, k, c, e, hk, hx⟩ := h
    refine ⟨op, n, m, who, A, k, c, e, hk, fun i hi => ?_⟩
    obtain ⟨b, o, xs, hA, hB, hbN, hra, hf, hap⟩ := hx i hi
    have hap' := hap.set_ b0 q x
    by_cases hat : b = b0 ∧ o + i = q
    · obtain ⟨rfl, rfl⟩ := hat
      cases d with
      | zero => exact absurd hap id
      | succ d =>
        have hap2 := hap
        obtain ⟨op1, n1, m1, who1, A1, k1, c1, rfl, _, _⟩ := hap2
        refine ⟨b, o, evC op1 x m1 who1 A1 k1 c1, hA, hB, hbN, fun j v hv => ?_, by rw [World.frozen?_setCell]; exact hf, hap'.n_free x⟩
        have e5 : (o + i) * 5 = o * 5 + i * 5 := by omega
        by_cases e1 : j = 1
        · subst e1
          have hv' : v = .int .i64 x := by simpa [evC] using hv.symm
          subst hv'
          rw [e5]
          exact World.cell?_setCell_same (h := hra 1 (.int .i64 n1) rfl) ..
        · have hv' : (evC op1 n1 m1 who1 A1 k1 c1).toList[j]? = some v := by
            rw [← hv]
            match j, e1 with
            | 0, _ => rfl
            | 1, h => exact absurd rfl h
            | j + 2, _ => rfl
          rw [World.cell?_setCell_other (h := by rw [e5]; intro h; injection h with _ h2; omega)]
          exact hra j v hv'
    · refine ⟨b, o, xs, hA, hB, hbN, fun j v hv => ?_, by rw [World.frozen?_setCell]; exact hf, hap'⟩
      rw [World.cell?_setCell_other (h := by
        intro h
        injection h with h1 h2
        have hj : j < 5 := by
          cases d with
          | zero => exact absurd hap id
          | succ d =>
            obtain ⟨_, _, _, _, _, _, _, rfl, _, _⟩ := hap
            have := (List.getElem?_eq_some_iff.1 hv).1
            simpa [evC] using this
        exact hat ⟨h1.symm, by omega⟩)]
      exact hra j v hv
theorem only_set {B N : Nat} {w : World} {b o : Nat} {v : Value} (h0 : B ≤ b) (h1 : b < N) : Only B N w (w.setCell ⟨b, o, none⟩ v) :=
  ⟨rfl, rfl, rfl, by simp, fun k _ ho => Below.heap_setCell w _ v k (by simp; omega)⟩
theorem results_no {P : Program} {fn : Func} (h : fn.results = #[]) (tmps : Array Value) (w : World) : (results fn tmps).run P w = .ok (.tuple #[]) w := by simp [results, h]
end Go.Proofs.YtmdfgkfimlmmnaaDoor
