/- Layer 4: what the walks of mana and of its reference share. -/
import Derived.Test.YtplfblccaeligaaDoorRows
import Derived.Test.YtplfblccaeligaaDoorManaMath
import Derived.Test.YtplfblccaeligaaDoorSl
import Derived.Test.YtplfblccaeligaaDoorReg
import Derived.Test.YtplfblccaeligaaDoorBase0
import Derived.Test.YtplfblccaeligaaDoorErr
import Derived.WalkSpells
import Derived.WalkLawsBesides
import Derived.Lib.Hide
import Derived.BigQuiet
import Derived.Deep.QuietTactic
import Derived.Deep.Cut
import Derived.IntWalk
import Derived.Lib.Repeat
import Derived.Lib.Strings
import Derived.Lib.IndexBytes
namespace Go.Proofs.YtplfblccaeligaaDoor
open Go.RowKit Mx
theorem size6 : (Tryd.prog.info? 52).map (·.size) = some 6 := by kernel_rfl
theorem zero6 : #[Value.int .i64 0, Value.int .i64 0, Value.int .i64 0, Value.int .i64 0, Value.int .i64 0, Value.int .i64 0] = arr .i64 6 zeroC := (arr_zero .i64 6).symm
theorem all6 {p : Nat → Prop} (h0 : p 0) (h1 : p 1) (h2 : p 2) (h3 : p 3) (h4 : p 4) (h5 : p 5) : ∀ i, i < 6 → p i := by
  intro i hi
  match i, hi with
  | 0, _ => exact h0
  | 1, _ => exact h1
  | 2, _ => exact h2
  | 3, _ => exact h3
  | 4, _ => exact h4
  | 5, _ => exact h5
theorem index_cost (f : Nat → Int) : ∀ i : Nat, i < 6 → ∀ w, (Instr.index 52 (.agg (arr .i64 6 f)) (.int .i64 (i : Int))).run Tryd.prog w = .ok (.int .i64 (f i)) w :=
  all6 (fun _ => by kernel_rfl) (fun _ => by kernel_rfl) (fun _ => by kernel_rfl) (fun _ => by kernel_rfl) (fun _ => by kernel_rfl) (fun _ => by kernel_rfl)
/-- All numbers of a cost are numbers of 64 bits. -/
def Wide (f : Nat → Int) : Prop := ∀ i, i < 6 → -9223372036854775808 ≤ f i ∧ f i ≤ 9223372036854775807
/-- The first k numbers are good. -/
def GoodK (f : Nat → Int) (k : Nat) : Prop := ∀ i, i < k → 0 ≤ f i ∧ f i ≤ 1000
theorem GoodK.next {f : Nat → Int} {k : Nat} (h : GoodK f k) (h0 : 0 ≤ f k) (h1 : f k ≤ 1000) : GoodK f (k + 1) := fun i hi => by
  by_cases e : i = k
  · subst e; exact ⟨h0, h1⟩
  · exact h i (by omega)
theorem good_wide {f : Nat → Int} (h : GoodC f) : Wide f := fun i hi => by have := h i hi; omega
/-- The sum of the first k numbers, as it wraps around. -/
def sumW (f : Nat → Int) : Nat → Int
  | 0 => 0
  | k + 1 => wrap64 (sumW f k + f k)
theorem sumW_range (f : Nat → Int) : ∀ k, -9223372036854775808 ≤ sumW f k ∧ sumW f k ≤ 9223372036854775807
  | 0 => by simp [sumW]
  | k + 1 => by unfold sumW wrap64; omega
theorem sumW_good {f : Nat → Int} (h : GoodC f) : ∀ k, k ≤ 6 → 0 ≤ sumW f k ∧ sumW f k ≤ 1000 * k
  | 0, _ => by simp [sumW]
  | k + 1, hk => by
    have h1 := sumW_good h k (by omega)
    have h2 := h k (by omega)
    simp only [sumW]
    rw [IntWalk.wrap64_in _ ⟨by omega, by omega⟩]
    omega
theorem sumW_zero {f : Nat → Int} (h : GoodC f) : ∀ k, k ≤ 6 → (sumW f k = 0 ↔ ∀ i, i < k → f i = 0)
  | 0, _ => by simp [sumW]
  | k + 1, hk => by
    have h1 := sumW_good h k (by omega)
    have h2 := h k (by omega)
    have ih := sumW_zero h k (by omega)
    simp only [sumW]
    rw [IntWalk.wrap64_in _ ⟨by omega, by omega⟩]
    constructor
    · intro e i hi
      by_cases e2 : i = k
      · subst e2; omega
      · exact ih.1 (by omega) i (by omega)
    · intro e
      have := ih.2 (fun i hi => e i (by omega))
      have := e k (by omega)
      omega
theorem lets_nil {f : Nat → Int} (h : GoodC f) : ∀ k, k ≤ 5 → (lets f k = [] ↔ ∀ i, i < k → f i = 0)
  | 0, _ => by simp [lets]
  | k + 1, hk => by
    have h2 := h k (by omega)
    simp only [lets, List.append_eq_nil_iff, lets_nil h k (by omega), List.replicate_eq_nil_iff]
    constructor
    · rintro ⟨a, b⟩ i hi
      by_cases e2 : i = k
      · subst e2; omega
      · exact a i (by omega)
    · intro e
      exact ⟨fun i hi => e i (by omega), by have := e k (by omega); omega⟩
/-- Whether the figures stand there. -/
theorem figs_when {f : Nat → Int} (h : GoodC f) : (f 5 ≠ 0 ∨ sumW f 6 = 0) ↔ (f 5 ≠ 0 ∨ lets f 5 = []) := by
  rw [sumW_zero h 6 (by omega), lets_nil h 5 (by omega)]
  constructor
  · rintro (a | a)
    · exact .inl a
    · exact .inr fun i hi => a i (by omega)
  · rintro (a | a)
    · exact .inl a
    · by_cases e : f 5 = 0
      · right; intro i hi
        by_cases e2 : i = 5
        · subst e2; exact e
        · exact a i (by omega)
      · exact .inl e
def GoodPost (f : Nat → Int) (w : World) (e : Ending) (w' : World) : Prop := ((GoodC f ∧ e = .returned (.bool true)) ∨ (¬ GoodC f ∧ e = .returned (.bool false))) ∧ Below w.heap.size w w'
theorem good_yes {f : Nat → Int} {w : World} {g : FuncId} {xs : Array Value} (h : Calls Tryd.prog g xs w (GoodPost f w)) (hf : GoodC f) : Calls Tryd.prog g xs w fun e w' => e = .returned (.bool true) ∧ Below w.heap.size w w' :=
  h.mono fun _ _ ⟨h1, h2⟩ => by
    rcases h1 with ⟨_, h1⟩ | ⟨h1, _⟩
    · exact ⟨h1, h2⟩
    · exact absurd hf h1
theorem good_no {f : Nat → Int} {w : World} {g : FuncId} {xs : Array Value} (h : Calls Tryd.prog g xs w (GoodPost f w)) (hf : ¬ GoodC f) : Calls Tryd.prog g xs w fun e w' => e = .returned (.bool false) ∧ Below w.heap.size w w' :=
  h.mono fun _ _ ⟨h1, h2⟩ => by
    rcases h1 with ⟨h1, _⟩ | ⟨_, h1⟩
    · exact absurd h1 hf
    · exact ⟨h1, h2⟩
theorem dig_len : ∀ n : Nat, (Lib.decDigits n).length ≤ n + 1 := by
  intro n
  induction n using Nat.strongRecOn with
  | _ n ih =>
    rw [Lib.decDigits]
    split
    · simp
    · have := ih (n / 10) (by omega)
      simp only [List.length_append, List.length_cons, List.length_nil]
      omega
theorem mk_append (a b : Array UInt8) : (⟨a⟩ : ByteArray) ++ ⟨b⟩ = ⟨a ++ b⟩ := by
  apply ByteArray.ext; simp
/-- What Text answers: the text, and an error's number. -/
def TextR (f : Nat → Int) (s : List UInt8) (k : Int) : Prop :=
  (¬ GoodC f ∧ s = [] ∧ k = 2) ∨ (GoodC f ∧ ¬ Few f ∧ s = [] ∧ k = 3) ∨ (GoodC f ∧ Few f ∧ s = textL f ∧ k = 0)
theorem textR_one {f : Nat → Int} {s s' : List UInt8} {k k' : Int} (h : TextR f s k) (h' : TextR f s' k') : s = s' ∧ k = k' := by
  unfold TextR at h h'
  rcases h with ⟨a1, rfl, rfl⟩ | ⟨a1, a2, rfl, rfl⟩ | ⟨a1, a2, rfl, rfl⟩ <;>
  rcases h' with ⟨b1, rfl, rfl⟩ | ⟨b1, b2, rfl, rfl⟩ | ⟨b1, b2, rfl, rfl⟩ <;>
  first | exact ⟨rfl, rfl⟩ | exact absurd a1 b1 | exact absurd b1 a1 | exact absurd a2 b2 | exact absurd b2 a2
def strV (l : List UInt8) : Value := .string ⟨l.toArray⟩
def TextPost (f : Nat → Int) (err : Int → Value) (w : World) (e : Ending) (w' : World) : Prop :=
  ∃ s k, TextR f s k ∧ e = .returned (.tuple #[strV s, err k]) ∧ Below w.heap.size w w'
def FewK (f : Nat → Int) (k : Nat) : Prop := ∀ i, i < k → f i ≤ 20
theorem FewK.next {f : Nat → Int} {k : Nat} (h : FewK f k) (h1 : f k ≤ 20) : FewK f (k + 1) := fun i hi => by
  by_cases e : i = k
  · subst e; exact h1
  · exact h i (by omega)
theorem lets_len {f : Nat → Int} : ∀ k, FewK f k → (lets f k).length ≤ 20 * k
  | 0, _ => by simp [lets]
  | k + 1, h => by
    have ih := lets_len k (fun i hi => h i (by omega))
    have := h k (by omega)
    simp only [lets, List.length_append, List.length_replicate]
    omega
theorem rep_snoc (l : List UInt8) (b : UInt8) (j : Nat) : (⟨(l ++ List.replicate j b).toArray⟩ : ByteArray) ++ ⟨#[b]⟩ = ⟨(l ++ List.replicate (j + 1) b).toArray⟩ := by
  rw [mk_append, List.replicate_succ', ← List.append_assoc]; simp
theorem toList_mk (l : List UInt8) : (⟨l.toArray⟩ : ByteArray).toList = l := by rw [Lib.toList_data]
theorem size_mk (l : List UInt8) : (⟨l.toArray⟩ : ByteArray).size = l.length := rfl
/-- What Parse answers: a cost, and an error's number. -/
def ParseR (s : List UInt8) (g : Nat → Int) (k : Int) : Prop := (IsText g s ∧ k = 0) ∨ ((¬ ∃ f, IsText f s) ∧ (∀ i, i < 6 → g i = 0) ∧ k = 2)
theorem parseR_one {s : List UInt8} {g g' : Nat → Int} {k k' : Int} (h : ParseR s g k) (h' : ParseR s g' k') : (∀ i, i < 6 → g i = g' i) ∧ k = k' := by
  rcases h with ⟨a, rfl⟩ | ⟨a, b, rfl⟩ <;> rcases h' with ⟨a', rfl⟩ | ⟨a', b', rfl⟩
  · exact ⟨text_one a a', rfl⟩
  · exact absurd ⟨_, a⟩ a'
  · exact absurd ⟨_, a'⟩ a
  · exact ⟨fun i hi => by rw [b i hi, b' i hi], rfl⟩
def ParsePost (s : List UInt8) (err : Int → Value) (w : World) (e : Ending) (w' : World) : Prop :=
  ∃ g k, ParseR s g k ∧ e = .returned (.tuple #[.agg (arr .i64 6 g), err k]) ∧ Below w.heap.size w w'
theorem index_str (s : ByteArray) (i : Nat) (b : UInt8) (h : s.data.toList[i]? = some b) (w : World) : (Instr.index 9 (.string s) (.int .i64 (i : Int))).run Tryd.prog w = .ok (.int .u8 (b.toNat : Int)) w := by
  have h1 := (List.getElem?_eq_some_iff.1 h).1
  have hs : i < s.size := by rw [Lib.size_eq]; exact h1
  have h2 := Lib.data_getElem? s i hs
  rw [h] at h2
  have h3 : s[i]'hs = b := (Option.some.inj h2).symm
  rw [run_index_string (P := Tryd.prog) (w := w) 9 s .i64 (i : Int) Tryd.underlying9, dif_pos ⟨by omega, by omega⟩]
  simp only [Int.toNat_natCast, h3]
end Go.Proofs.YtplfblccaeligaaDoor
