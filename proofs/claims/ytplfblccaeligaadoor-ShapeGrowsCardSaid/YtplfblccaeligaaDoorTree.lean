/- Layer 6: effects as trees, and how they read in memory. -/
import Derived.Test.YtplfblccaeligaaDoorRows
import Derived.Test.YtplfblccaeligaaDoorArr
import Derived.Test.YtplfblccaeligaaDoorSl
import Derived.Deep.Slices
import Derived.Deep.MidRow
import Derived.ChangeArms
import Derived.Below
namespace Go.Proofs.YtplfblccaeligaaDoor
open Go.ChangeShapes Go.WideShapes Go.RowKit
namespace Ex
/-- An effect. -/
inductive ET where
  | node (op n m who : Int) (l : List ET) : ET
def ET.op : ET → Int | .node a _ _ _ _ => a
def ET.n : ET → Int | .node _ a _ _ _ => a
def ET.m : ET → Int | .node _ _ a _ _ => a
def ET.who : ET → Int | .node _ _ _ a _ => a
def ET.subs : ET → List ET | .node _ _ _ _ l => l
mutual
/-- How many effects. -/
def sizeT : ET → Nat
  | .node _ _ _ _ l => 1 + sizeL l
def sizeL : List ET → Nat
  | [] => 0
  | t :: l => sizeT t + sizeL l
end
mutual
/-- How deep. -/
def depthT : ET → Nat
  | .node _ _ _ _ l => 1 + depthL l
def depthL : List ET → Nat
  | [] => 0
  | t :: l => max (depthT t) (depthL l)
end
mutual
/-- Whether an op is within. -/
def hasT (op : Int) : ET → Bool
  | .node a _ _ _ l => a == op || hasL op l
def hasL (op : Int) : List ET → Bool
  | [] => false
  | t :: l => hasT op t || hasL op l
end
theorem sizeT_pos : ∀ t, 1 ≤ sizeT t
  | .node _ _ _ _ l => by simp only [sizeT]; omega
theorem size_mem : ∀ {l : List ET} {i : Nat} {t : ET}, l[i]? = some t → sizeT t ≤ sizeL l
  | [], i, t, h => by simp at h
  | x :: l, 0, t, h => by
    simp at h; subst h; simp only [sizeL]; omega
  | x :: l, i + 1, t, h => by
    have := size_mem (l := l) (i := i) (t := t) (by simpa using h)
    simp only [sizeL]; omega
theorem sizeL_take : ∀ (l : List ET) (i : Nat) (t : ET), l[i]? = some t → sizeL (l.take (i + 1)) = sizeL (l.take i) + sizeT t
  | [], i, t, h => by simp at h
  | x :: l, 0, t, h => by
    simp at h; subst h; simp [sizeL]
  | x :: l, i + 1, t, h => by
    have := sizeL_take l i t (by simpa using h)
    simp only [List.take_succ_cons, sizeL, this]; omega
theorem sizeL_take_le : ∀ (l : List ET) (i : Nat), sizeL (l.take i) ≤ sizeL l
  | [], i => by simp
  | x :: l, 0 => by simp [sizeL]
  | x :: l, i + 1 => by
    have := sizeL_take_le l i
    simp only [List.take_succ_cons, sizeL]; omega
theorem sizeL_len : ∀ l : List ET, l.length ≤ sizeL l
  | [] => by simp [sizeL]
  | x :: l => by
    have := sizeL_len l
    have := sizeT_pos x
    simp only [sizeL, List.length_cons]; omega
theorem take_len_size (l : List ET) (k : Nat) (h : k ≤ l.length) : k ≤ sizeL (l.take k) := by
  have := sizeL_len (l.take k)
  rw [List.length_take] at this
  omega
theorem depthL_take : ∀ (l : List ET) (i : Nat) (t : ET), l[i]? = some t → depthL (l.take (i + 1)) = max (depthL (l.take i)) (depthT t)
  | [], i, t, h => by simp at h
  | x :: l, 0, t, h => by
    simp at h; subst h; simp [depthL]
  | x :: l, i + 1, t, h => by
    have := depthL_take l i t (by simpa using h)
    simp only [List.take_succ_cons, depthL, this]; omega
mutual
theorem depth_size : ∀ t, depthT t ≤ sizeT t
  | .node _ _ _ _ l => by
    have := depthL_size l
    simp only [depthT, sizeT]; omega
theorem depthL_size : ∀ l, depthL l ≤ sizeL l
  | [] => by simp [depthL]
  | t :: l => by
    have := depth_size t
    have := depthL_size l
    simp only [depthL, sizeL]; omega
end
theorem hasL_take (op : Int) : ∀ (l : List ET) (i : Nat) (t : ET), l[i]? = some t → hasL op (l.take (i + 1)) = (hasL op (l.take i) || hasT op t)
  | [], i, t, h => by simp at h
  | x :: l, 0, t, h => by
    simp at h; subst h; simp [hasL]
  | x :: l, i + 1, t, h => by
    have := hasL_take op l i t (by simpa using h)
    simp only [List.take_succ_cons, hasL, this, Bool.or_assoc]
end Ex
open Ex
/-- An effect's five cells. -/
def evC (op n m who : Int) (A : Option Addr) (k c : Nat) : Array Value := #[.int .i64 op, .int .i64 n, .int .i64 m, .int .i64 who, .slice A k c]
def In64 (x : Int) : Prop := -9223372036854775808 ≤ x ∧ x ≤ 9223372036854775807
/-- Five cells read as an effect, below block B of w; d bounds how deep. -/
def Reads (B : Nat) (w : World) : Nat → Array Value → ET → Prop
  | 0, _, _ => False
  | d + 1, cs, .node op n m who l => In64 op ∧ In64 n ∧ In64 m ∧ In64 who ∧ ∃ A c, cs = evC op n m who A l.length c ∧ l.length ≤ c ∧ c ≤ maxLen ∧
      ∀ i t, l[i]? = some t → ∃ b o xs, A = some ⟨b, o, none⟩ ∧ b < B ∧ w.rangeAt b (o + i * 5) xs.toList ∧ Reads B w d xs t
theorem rangeAt_below {B : Nat} {w w' : World} (h : Below B w w') {b o : Nat} {cs : List Value} (hb : b < B) (hr : w.rangeAt b o cs) : w'.rangeAt b o cs := fun j v hv => by
  rw [World.cell?_of_block (h.block b hb)]; exact hr j v hv
theorem Reads.keep {B : Nat} {w w' : World} (h : Below B w w') : ∀ {d : Nat} {cs : Array Value} {t : ET}, Reads B w d cs t → Reads B w' d cs t
  | 0, _, _, hr => hr
  | d + 1, cs, .node op n m who l, hr => by
    obtain ⟨h1, h2, h3, h4, A, c, e, hl, hc, hx⟩ := hr
    refine ⟨h1, h2, h3, h4, A, c, e, hl, hc, fun i t hi => ?_⟩
    obtain ⟨b, o, xs, hA, hb, hra, hrx⟩ := hx i t hi
    exact ⟨b, o, xs, hA, hb, rangeAt_below h hb hra, hrx.keep h⟩
theorem Reads.more {B B' : Nat} {w : World} (hB : B ≤ B') : ∀ {d : Nat} {cs : Array Value} {t : ET}, Reads B w d cs t → Reads B' w d cs t
  | 0, _, _, hr => hr
  | d + 1, cs, .node op n m who l, hr => by
    obtain ⟨h1, h2, h3, h4, A, c, e, hl, hc, hx⟩ := hr
    refine ⟨h1, h2, h3, h4, A, c, e, hl, hc, fun i t hi => ?_⟩
    obtain ⟨b, o, xs, hA, hb, hra, hrx⟩ := hx i t hi
    exact ⟨b, o, xs, hA, by omega, hra, hrx.more hB⟩
theorem Reads.shape {B d : Nat} {w : World} {cs : Array Value} {t : ET} (h : Reads B w d cs t) : ∃ A c, cs = evC t.op t.n t.m t.who A t.subs.length c ∧ t.subs.length ≤ c ∧ c ≤ maxLen := by
  cases d with
  | zero => exact absurd h id
  | succ d =>
    cases t with
    | node op n m who l =>
      obtain ⟨_, _, _, _, A, c, e, hl, hc, _⟩ := h
      exact ⟨A, c, e, hl, hc⟩
theorem Reads.size {B d : Nat} {w : World} {cs : Array Value} {t : ET} (h : Reads B w d cs t) : cs.size = 5 := by
  obtain ⟨A, c, rfl, _⟩ := h.shape; rfl
end Go.Proofs.YtplfblccaeligaaDoor
