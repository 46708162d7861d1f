/- Rows of a block's own, full or cut: what an append, or a cut, makes of them. Over any program. Layer 14: the landed journal in memory: a box with its events, its checkpoints, how many numbers were given. Layer 14: the code's New, Len, Next, Mark. Layer 12: the code's Check and what it asks; Sets. Layer 14: the code's Add. Layer 14: the code's Mark. Layer 14: the library's BinarySearchFunc over checkpoints; the code's find and Live. Layer 14: the library's Clone over events and checkpoints; the code's Span, Copy, Marks. Layer 14: the code's Span, Copy, Marks. Layer 14: the code's Marks. -/
import Derived.Test.YtncmfkmgaghklaaBase0
import Derived.ArgAppend
import Derived.Maps.AppendAt
import Derived.Test.YtncmfkmgaghklaaJnSaid
import Derived.Test.YtncmfkmgaghklaaNtEv2
import Derived.Test.YtncmfkmgaghklaaReg
import Derived.Deep.Cut
import Derived.Test.YtncmfkmgaghklaaEvInv
import Derived.Test.YtncmfkmgaghklaaErr
import Derived.Test.YtncmfkmgaghklaaEvLe
import Derived.Lib.BufferMore
import Derived.Test.YtncmfkmgaghklaaSl
namespace Go.Proofs.Ytncmfkmgaghklaa
open Go.RowKit
/-- A slice at a block's beginning that reads as these cells: its block is as long as its room, or it has no room. -/
structure OwnX (e : TypeId) (size : Nat) (w : World) (A : Option Addr) (n c : Nat) (xs : List Value) : Prop where
  len : xs.length = n * size
  le : n ≤ c
  m : c ≤ maxLen
  o : (A = none ∧ c = 0) ∨ ∃ g cur, A = some ⟨g, 0, none⟩ ∧ w.heap[g]? = some (.cells cur e (0, 0)) ∧ c * size ≤ cur.size ∧ cur.toList.take (n * size) = xs ∧ (cur.size = c * size ∨ n = c)
section
variable {e : TypeId} {size : Nat} {w w' : World} {A : Option Addr} {n c : Nat} {xs : List Value}
theorem OwnX.of {base : Nat} (h : w.ownsRow base e size (.slice A n c) n xs) : OwnX e size w A n c xs := by
  rcases h.2 with ⟨hv, hn⟩ | ⟨g, cap, cur, hv, _, hg, hc, hm, hs, ht⟩
  · injection hv with h1 _ h3
    subst h1 h3 hn
    exact ⟨h.1, Nat.le_refl _, Nat.zero_le _, .inl ⟨rfl, rfl⟩⟩
  · injection hv with h1 _ h3
    subst h1 h3
    exact ⟨h.1, hc, hm, .inr ⟨g, cur, rfl, hg, by omega, ht, .inl hs⟩⟩
theorem OwnX.nil_ : OwnX e size w none 0 0 [] := ⟨by simp, Nat.le_refl _, Nat.zero_le _, .inl ⟨rfl, rfl⟩⟩
theorem OwnX.block (h : OwnX e size w A n c xs) {k : Nat} (hk : (Value.slice A n c).ownBlock = some k) : ∃ cur, w.heap[k]? = some (.cells cur e (0, 0)) := by
  rcases h.o with ⟨rfl, _⟩ | ⟨g, cur, rfl, hg, _⟩
  · simp [Value.ownBlock] at hk
  · simp [Value.ownBlock] at hk
    subst hk
    exact ⟨cur, hg⟩
theorem OwnX.lt (h : OwnX e size w A n c xs) {k : Nat} (hk : (Value.slice A n c).ownBlock = some k) : k < w.heap.size := by
  obtain ⟨cur, hg⟩ := h.block hk
  exact (Array.getElem?_eq_some_iff.1 hg).1
theorem OwnX.stay (h : OwnX e size w A n c xs) (hb : ∀ k, (Value.slice A n c).ownBlock = some k → w'.heap[k]? = w.heap[k]?) : OwnX e size w' A n c xs := by
  refine ⟨h.len, h.le, h.m, ?_⟩
  rcases h.o with h1 | ⟨g, cur, rfl, hg, rest⟩
  · exact .inl h1
  · exact .inr ⟨g, cur, rfl, (hb g rfl).trans hg, rest⟩
theorem OwnX.at0 (h : OwnX e size w A n c xs) : A = none ∨ ∃ g, A = some ⟨g, 0, none⟩ := by
  rcases h.o with ⟨rfl, _⟩ | ⟨g, cur, rfl, _⟩
  · exact .inl rfl
  · exact .inr ⟨g, rfl⟩
theorem OwnX.cells (h : OwnX e size w A n c xs) {g : Nat} (hA : A = some ⟨g, 0, none⟩) : ∀ (j : Nat) (u : Value), xs[j]? = some u → w.cell? ⟨g, j, none⟩ = some u := by
  intro j u hu
  rcases h.o with ⟨rfl, _⟩ | ⟨g', cur, rfl, hg, hs, ht, _⟩
  · cases hA
  · injection hA with hA
    injection hA with hA
    subst hA
    rw [cell_of_row w g' j cur e (0, 0) hg]
    rw [← ht, List.getElem?_take] at hu
    split at hu
    · simpa using hu
    · cases hu
theorem OwnX.cut (h : OwnX e size w A n c xs) {m : Nat} (hm : m ≤ n) : OwnX e size w A m m (xs.take (m * size)) := by
  have hmn : m * size ≤ n * size := Nat.mul_le_mul_right _ hm
  have hnc : n * size ≤ c * size := Nat.mul_le_mul_right _ h.le
  have hl := h.len
  have h1 := h.le
  have h2 := h.m
  refine ⟨by rw [List.length_take, hl]; omega, Nat.le_refl _, by omega, ?_⟩
  rcases h.o with ⟨rfl, h0⟩ | ⟨g, cur, rfl, hg, hs, ht, _⟩
  · exact .inl ⟨rfl, by omega⟩
  · refine .inr ⟨g, cur, rfl, hg, by omega, ?_, .inr rfl⟩
    rw [← ht, List.take_take, Nat.min_eq_left hmn]
/-- Whose block is as long as its room. -/
theorem OwnX.row (h : OwnX e size w A n c xs) : (∀ g cur, A = some ⟨g, 0, none⟩ → w.heap[g]? = some (.cells cur e (0, 0)) → cur.size = c * size) → w.ownsRow 0 e size (.slice A n c) n xs := fun hf => by
  refine ⟨h.len, ?_⟩
  have hle := h.le
  rcases h.o with ⟨rfl, h0⟩ | ⟨g, cur, rfl, hg, hs, ht, _⟩
  · subst h0
    obtain rfl : n = 0 := by omega
    exact .inl ⟨rfl, rfl⟩
  · exact .inr ⟨g, c, cur, rfl, Nat.zero_le _, hg, hle, h.m, hf g cur rfl hg, ht⟩
end
theorem grownBy_of_none {w w' : World} (h : w.grownBy w' none) (row : Option Nat) : w.grownBy w' row := ⟨h.os, h.tape, h.output, h.size, fun k hk _ => h.block k hk (by simp)⟩
theorem own_form {w : World} {base : Nat} {e : TypeId} {size n : Nat} {v : Value} {xs : List Value} (h : w.ownsRow base e size v n xs) : ∃ A c, v = .slice A n c := by
  rcases h.2 with ⟨rfl, hz⟩ | ⟨g', cap, _, rfl, _⟩
  · exact ⟨none, 0, by rw [hz]⟩
  · exact ⟨_, _, rfl⟩
section
variable {P : Program} {w : World}
/-- What an append answers. -/
def AppX (P : Program) (w : World) (t ty e : TypeId) (size : Nat) (A : Option Addr) (n c m : Nat) (x : Value) (zs : List Value) : Prop :=
  ∃ A' c' w', (Builtin.append_ #[t, t] ty #[.slice A n c, x]).run P w = .ok (.slice A' (n + m) c') w' ∧ OwnX e size w' A' (n + m) c' zs ∧ w.grownBy w' (Value.slice A n c).ownBlock ∧
    (∀ k, (Value.slice A' (n + m) c').ownBlock = some k → (Value.slice A n c).ownBlock = some k ∨ w.heap.size ≤ k)
theorem run_appX_none (t ty e : TypeId) (i : TypeInfo) (size : Nat) (ht : P.underlying t = some (.slice e)) (hi : P.info? e = some i) {A : Option Addr} {n c : Nat} {xs : List Value} (h : OwnX e size w A n c xs) (c2 : Nat) :
    AppX P w t ty e size A n c 0 (.slice none 0 c2) xs := by
  have hle := h.le
  refine ⟨A, c, w, ?_, h, World.grownBy.refl w _, fun k hk => .inl hk⟩
  rcases h.at0 with rfl | ⟨g, rfl⟩ <;>
  simp [Builtin.append_, run_underlying ht, sizeOf, typeInfo, hi, Builtin.lenOf, Builtin.firstCells, storeCells, hle]
theorem run_appX (t ty e : TypeId) (i : TypeInfo) (z : Value) (size bytes : Nat) (ht : P.underlying t = some (.slice e)) (hi : P.info? e = some i) (hz : i.zero = some z)
    (hsize : i.size = size) (hby : i.bytes = bytes) (hzs : z.cells.size = size) (hsz : 0 < size) {A : Option Addr} {n c : Nat} {xs : List Value} (h : OwnX e size w A n c xs)
    (a : Addr) (m c2 : Nat) (news : List Value) (hl : news.length = m * size) (hnews : ∀ j u, news[j]? = some u → w.cell? (a.add j) = some u) (h1 : ∀ u ∈ news, u.oneCell' = true)
    (h63 : n + m ≤ maxLen) (hbytes : (n + m) * bytes ≤ 140737488355328) : AppX P w t ty e size A n c m (.slice (some a) m c2) (xs ++ news) := by
  have hfull : w.ownsRow 0 e size (.slice A n c) n xs → AppX P w t ty e size A n c m (.slice (some a) m c2) (xs ++ news) := fun ho => by
    obtain ⟨v', w', hrun, hown, hgr, _, hat⟩ := run_append_own_at (P := P) w 0 t ty e i z size bytes ht hi hz hsize hby hzs hsz _ n xs ho a m c2 news hl hnews h1 h63 hbytes (Nat.zero_le _)
    obtain ⟨A', c', rfl⟩ := own_form hown
    refine ⟨A', c', w', hrun, OwnX.of hown, hgr, fun k hk => ?_⟩
    rcases hat with hat | hat
    · rw [hat] at hk; exact .inl hk
    · rw [hat] at hk; injection hk with hk; exact .inr (by omega)
  rcases h.o with ⟨rfl, h0⟩ | ⟨g, cur, rfl, hg, hs, hta, hsz2 | hnc⟩
  · exact hfull (h.row fun g cur hA => by cases hA)
  · refine hfull (h.row fun g' cur' hA hg' => ?_)
    injection hA with hA
    injection hA with hA
    subst hA
    rw [hg] at hg'
    injection hg' with hg'
    injection hg' with hg'
    rw [← hg']; exact hsz2
  · subst hnc
    by_cases hm : m = 0
    · subst hm
      obtain rfl : news = [] := List.length_eq_zero_iff.1 (by rw [hl, Nat.zero_mul])
      have hr := run_append_room_cells (P := P) w t ty e i ht hi g 0 n n a 0 c2 [] (by simp) (fun j u hu => by simp at hu) (by simp) (by omega) (by simp) (by simp)
      refine ⟨some ⟨g, 0, none⟩, n, w, hr, by rw [List.append_nil]; exact h, World.grownBy.refl w _, fun k hk => .inl hk⟩
    · obtain ⟨v', w', hrun, hown, hgr⟩ := run_append_arg_grows (P := P) w t ty e i z size bytes ht hi hz hsize hby hzs hsz ⟨g, 0, none⟩ n n xs h.len
        (fun j u hu => by
          have := h.cells rfl j u hu
          have e1 : (⟨g, 0, none⟩ : Addr).add j = ⟨g, j, none⟩ := by unfold Addr.add; split <;> simp_all
          rw [e1]; exact this) a m c2 news hl hnews (by omega) h63 hbytes
      obtain ⟨A', c', rfl⟩ := own_form hown
      exact ⟨A', c', w', hrun, OwnX.of hown, grownBy_of_none hgr _, fun k hk => .inr (hown.lt k hk).1⟩
end
/-- 'l[:m:m]' of such a slice. -/
theorem run_cutX {P : Program} (t : TypeId) {A : Option Addr} (hA : A = none ∨ ∃ g, A = some ⟨g, 0, none⟩) (n c m : Nat) (hm : m ≤ c) (ht : P.underlying t = some (.slice (P.elem t))) (s : Nat) (hs : ∀ W, (sizeOf (P.elem t)).run P W = .ok s W) (W : World) :
    (Instr.slice t (.slice A n c) none (some (.int .i64 (m : Int))) (some (.int .i64 (m : Int)))).run P W = .ok (.slice A m m) W := by
  rw [run_slice_hm W t A n c ht .i64 .i64 (m : Int) (m : Int) (by omega) (by omega) (by omega), hs]
  simp only [Result.andThen_ok, sliced, Int.toNat_natCast]
  rcases hA with rfl | ⟨g, rfl⟩
  · simp
  · have e1 : (⟨g, 0, none⟩ : Addr).add 0 = ⟨g, 0, none⟩ := by unfold Addr.add; split <;> simp_all
    simp [e1]
end Go.Proofs.Ytncmfkmgaghklaa
namespace Go.Proofs.Ytncmfkmgaghklaa
open Go.RowKit Ex
set_option maxRecDepth 100000
/-- A checkpoint's cells. -/
def ckC (m : Int × Nat) : Array Value := #[.int .i64 m.1, .int .i64 (m.2 : Int)]
theorem ckC_size (m : Int × Nat) : (ckC m).size = 2 := rfl
def flatK (l : List (Int × Nat)) : List Value := l.flatMap fun o => (ckC o).toList
theorem flatK_len (l : List (Int × Nat)) : (flatK l).length = l.length * 2 := by
  induction l with
  | nil => rfl
  | cons x l ih => simp only [flatK, List.flatMap_cons, List.length_append, Array.length_toList, ckC_size, List.length_cons] at ih ⊢; omega
theorem flatK_at : ∀ {l : List (Int × Nat)} (i : Nat) (o : Int × Nat), l[i]? = some o → ∀ j v, (ckC o).toList[j]? = some v → (flatK l)[i * 2 + j]? = some v
  | [], i, o, h, _, _, _ => by simp at h
  | x :: l, 0, o, h, j, v, hv => by
    simp at h; subst h
    simp only [flatK, List.flatMap_cons, Nat.zero_mul, Nat.zero_add]
    rw [List.getElem?_append_left (List.getElem?_eq_some_iff.1 hv).1]; exact hv
  | x :: l, i + 1, o, h, j, v, hv => by
    have ih := flatK_at (l := l) i o (by simpa using h) j v hv
    simp only [flatK, List.flatMap_cons] at ih ⊢
    rw [List.getElem?_append_right (by rw [Array.length_toList, ckC_size]; omega), Array.length_toList, ckC_size, show (i + 1) * 2 + j - 2 = i * 2 + j by omega]
    exact ih
theorem flatK_one (l : List (Int × Nat)) : ∀ u ∈ flatK l, u.oneCell' = true := fun u hu => by
  obtain ⟨o, _, h⟩ := List.mem_flatMap.1 hu
  simp [ckC] at h
  rcases h with rfl | rfl <;> rfl
theorem flatK_app (a b : List (Int × Nat)) : flatK (a ++ b) = flatK a ++ flatK b := by simp [flatK]
theorem flatK_take : ∀ (l : List (Int × Nat)) (m : Nat), (flatK l).take (m * 2) = flatK (l.take m)
  | l, 0 => by simp [flatK]
  | [], m + 1 => by simp [flatK]
  | x :: l, m + 1 => by
    have ih := flatK_take l m
    simp only [flatK, List.flatMap_cons, List.take_succ_cons] at ih ⊢
    rw [List.take_append, List.take_of_length_le (by rw [Array.length_toList, ckC_size]; omega), Array.length_toList, ckC_size, show (m + 1) * 2 - 2 = m * 2 by omega, ih]
theorem flatV_take : ∀ (l : List EvT) (m : Nat), (flatV l).take (m * 6) = flatV (l.take m)
  | l, 0 => by simp [flatV]
  | [], m + 1 => by simp [flatV]
  | x :: l, m + 1 => by
    have ih := flatV_take l m
    simp only [flatV, List.flatMap_cons, List.take_succ_cons] at ih ⊢
    rw [List.take_append, List.take_of_length_le (by rw [Array.length_toList, evC_size]; omega), Array.length_toList, evC_size, show (m + 1) * 6 - 6 = m * 6 by omega, ih]
theorem info_ck : (Try.prog.info? 71).map (fun i => (i.zero, i.size, i.bytes)) = some (some (.agg (ckC (0, 0))), 2, 16) := by kernel_rfl
/-- A journal's box, and what it holds. -/
structure JX (w : World) (p : Nat) (Ae : Option Addr) (ne ce : Nat) (Am : Option Addr) (nm cm : Nat) (j : JT) : Prop where
  box : w.heap[p]? = some (.cells #[.slice Ae ne ce, .slice Am nm cm, .int .i64 j.last] 64 (0, 0))
  ev : OwnX 41 6 w Ae ne ce (flatV j.ev)
  ei : ∀ e ∈ j.ev, EvI e
  ms : OwnX 71 2 w Am nm cm (flatK j.ms)
  mb : j.ms.length ≤ 2000000
/-- The blocks that are its own. -/
def JF (p : Nat) (Ae Am : Option Addr) (k : Nat) : Prop := k = p ∨ (Value.slice Ae 0 0).ownBlock = some k ∨ (Value.slice Am 0 0).ownBlock = some k
theorem own_ob (A : Option Addr) (n c : Nat) : (Value.slice A n c).ownBlock = (Value.slice A 0 0).ownBlock := by cases A <;> rfl
section
variable {w w' : World} {p ne ce nm cm : Nat} {Ae Am : Option Addr} {j : JT}
theorem JX.lt (h : JX w p Ae ne ce Am nm cm j) : p < w.heap.size := (Array.getElem?_eq_some_iff.1 h.box).1
theorem JX.ne_ (h : JX w p Ae ne ce Am nm cm j) : ne = j.ev.length := by have := h.ev.len; rw [flatV_len] at this; omega
theorem JX.nm_ (h : JX w p Ae ne ce Am nm cm j) : nm = j.ms.length := by have := h.ms.len; rw [flatK_len] at this; omega
theorem JX.pe (h : JX w p Ae ne ce Am nm cm j) {k : Nat} (hk : (Value.slice Ae ne ce).ownBlock = some k) : p ≠ k := fun e => by
  obtain ⟨cur, hg⟩ := h.ev.block hk
  rw [← e, h.box] at hg
  injection hg with hg
  injection hg with _ ht
  exact absurd ht (by decide)
theorem JX.pm (h : JX w p Ae ne ce Am nm cm j) {k : Nat} (hk : (Value.slice Am nm cm).ownBlock = some k) : p ≠ k := fun e => by
  obtain ⟨cur, hg⟩ := h.ms.block hk
  rw [← e, h.box] at hg
  injection hg with hg
  injection hg with _ ht
  exact absurd ht (by decide)
theorem JX.em (h : JX w p Ae ne ce Am nm cm j) {k : Nat} (hk : (Value.slice Ae ne ce).ownBlock = some k) : (Value.slice Am nm cm).ownBlock ≠ some k := fun hm => by
  obtain ⟨cur, hg⟩ := h.ev.block hk
  obtain ⟨cur', hg'⟩ := h.ms.block hm
  rw [hg'] at hg
  injection hg with hg
  injection hg with _ ht
  exact absurd ht (by decide)
theorem JX.stay (h : JX w p Ae ne ce Am nm cm j) (hb : ∀ k, JF p Ae Am k → w'.heap[k]? = w.heap[k]?) : JX w' p Ae ne ce Am nm cm j :=
  ⟨(hb p (.inl rfl)).trans h.box, h.ev.stay fun k hk => hb k (.inr (.inl (by rw [← own_ob Ae ne ce]; exact hk))), h.ei, h.ms.stay fun k hk => hb k (.inr (.inr (by rw [← own_ob Am nm cm]; exact hk))), h.mb⟩
theorem JX.flt (h : JX w p Ae ne ce Am nm cm j) {k : Nat} (hk : JF p Ae Am k) : k < w.heap.size := by
  rcases hk with rfl | hk | hk
  · exact h.lt
  · exact h.ev.lt (by rw [own_ob]; exact hk)
  · exact h.ms.lt (by rw [own_ob]; exact hk)
theorem JX.keep (h : JX w p Ae ne ce Am nm cm j) (hb : Below w.heap.size w w') : JX w' p Ae ne ce Am nm cm j := h.stay fun _ hk => hb.block _ (h.flt hk)
theorem JX.rd (h : JX w p Ae ne ce Am nm cm j) : RdV w.heap.size w Ae j.ev := by
  rcases h.ev.at0 with hA | ⟨g, hA⟩
  · have hl : j.ev = [] := by
      rcases h.ev.o with ⟨_, h0⟩ | ⟨g, cur, h1, _⟩
      · have := h.ne_; have := h.ev.le; exact List.length_eq_zero_iff.1 (by omega)
      · rw [hA] at h1; cases h1
    rw [hl]; exact RdV.none_
  · intro i o hi
    refine ⟨g, 0, hA, h.ev.lt (by rw [hA]; rfl), fun k u hu => ?_⟩
    rw [Nat.zero_add]
    exact h.ev.cells hA (i * 6 + k) u (flatV_at i o hi k u hu)
theorem JX.evs (h : JX w p Ae ne ce Am nm cm j) : Evs w.heap.size w Ae ne j.ev := ⟨h.ne_, h.rd, h.ei⟩
/-- A checkpoint in its place. -/
theorem JX.mk_at (h : JX w p Ae ne ce Am nm cm j) {i : Nat} {m : Int × Nat} (hi : j.ms[i]? = some m) : ∃ g, Am = some ⟨g, 0, none⟩ ∧ g < w.heap.size ∧ w.cell? ⟨g, i * 2, none⟩ = some (.int .i64 m.1) ∧ w.cell? ⟨g, i * 2 + 1, none⟩ = some (.int .i64 (m.2 : Int)) ∧ w.rangeAt g (i * 2) (ckC m).toList := by
  rcases h.ms.at0 with hA | ⟨g, hA⟩
  · rcases h.ms.o with ⟨_, h0⟩ | ⟨g, cur, h1, _⟩
    · have := h.nm_
      have := h.ms.le
      have hlt := (List.getElem?_eq_some_iff.1 hi).1
      omega
    · rw [hA] at h1; cases h1
  · refine ⟨g, hA, h.ms.lt (by rw [hA]; rfl), ?_, ?_, fun k u hu => ?_⟩
    · exact h.ms.cells hA (i * 2) _ (by have := flatK_at i m hi 0 _ rfl; rw [Nat.add_zero] at this; exact this)
    · exact h.ms.cells hA (i * 2 + 1) _ (flatK_at i m hi 1 _ rfl)
    · exact h.ms.cells hA (i * 2 + k) u (flatK_at i m hi k u hu)
theorem set_other (w : World) (p i k : Nat) (v : Value) (h : k ≠ p) : (w.setCell ⟨p, i, none⟩ v).heap[k]? = w.heap[k]? := heap_setCell_other w ⟨p, i, none⟩ k v (by simpa using h)
/-- Its events are written anew. -/
theorem JX.setEv (h : JX w p Ae ne ce Am nm cm j) (hp : w'.heap[p]? = w.heap[p]?) (hm : ∀ k, (Value.slice Am nm cm).ownBlock = some k → w'.heap[k]? = w.heap[k]?)
    {A' : Option Addr} {n' c' : Nat} {l' : List EvT} (ho : OwnX 41 6 w' A' n' c' (flatV l')) (hi : ∀ e ∈ l', EvI e) : JX (w'.setCell ⟨p, 0, none⟩ (.slice A' n' c')) p A' n' c' Am nm cm ⟨l', j.ms, j.last⟩ := by
  have hbox := hp.trans h.box
  have hne : ∀ k, (Value.slice A' n' c').ownBlock = some k → k ≠ p := fun k hk e => by
    obtain ⟨cur, hg⟩ := ho.block hk
    rw [e, hbox] at hg
    injection hg with hg
    injection hg with _ ht
    exact absurd ht (by decide)
  refine ⟨?_, ho.stay fun k hk => set_other _ _ _ _ _ (hne k hk), hi, h.ms.stay fun k hk => (set_other _ _ _ _ _ (h.pm hk).symm).trans (hm k hk), h.mb⟩
  rw [heap_setCell_same w' p 0 _ _ _ hbox]; rfl
/-- Its checkpoints are written anew. -/
theorem JX.setMs (h : JX w p Ae ne ce Am nm cm j) (hp : w'.heap[p]? = w.heap[p]?) (he : ∀ k, (Value.slice Ae ne ce).ownBlock = some k → w'.heap[k]? = w.heap[k]?)
    {A' : Option Addr} {n' c' : Nat} {l' : List (Int × Nat)} (ho : OwnX 71 2 w' A' n' c' (flatK l')) (hb : l'.length ≤ 2000000) : JX (w'.setCell ⟨p, 1, none⟩ (.slice A' n' c')) p Ae ne ce A' n' c' ⟨j.ev, l', j.last⟩ := by
  have hbox := hp.trans h.box
  have hne : ∀ k, (Value.slice A' n' c').ownBlock = some k → k ≠ p := fun k hk e => by
    obtain ⟨cur, hg⟩ := ho.block hk
    rw [e, hbox] at hg
    injection hg with hg
    injection hg with _ ht
    exact absurd ht (by decide)
  refine ⟨?_, h.ev.stay fun k hk => (set_other _ _ _ _ _ (h.pe hk).symm).trans (he k hk), h.ei, ho.stay fun k hk => set_other _ _ _ _ _ (hne k hk), hb⟩
  rw [heap_setCell_same w' p 1 _ _ _ hbox]; rfl
/-- Its last number is written anew. -/
theorem JX.setLast (h : JX w p Ae ne ce Am nm cm j) (n : Int) : JX (w.setCell ⟨p, 2, none⟩ (.int .i64 n)) p Ae ne ce Am nm cm ⟨j.ev, j.ms, n⟩ := by
  refine ⟨?_, h.ev.stay fun k hk => set_other _ _ _ _ _ (h.pe hk).symm, h.ei, h.ms.stay fun k hk => set_other _ _ _ _ _ (h.pm hk).symm, h.mb⟩
  rw [heap_setCell_same w p 2 _ _ _ h.box]; rfl
theorem JX.new (h : w.heap[p]? = some (.cells #[.slice Ae ne ce, .slice Am nm cm, .int .i64 j.last] 64 (0, 0))) (h1 : OwnX 41 6 w Ae ne ce (flatV j.ev)) (h2 : ∀ e ∈ j.ev, EvI e) (h3 : OwnX 71 2 w Am nm cm (flatK j.ms)) (h4 : j.ms.length ≤ 2000000) : JX w p Ae ne ce Am nm cm j := ⟨h, h1, h2, h3, h4⟩
end
/-- How a journal lies in memory. -/
def JR (w : World) (p : Nat) (j : JT) (F : Nat → Prop) : Prop := ∃ Ae ne ce Am nm cm, JX w p Ae ne ce Am nm cm j ∧ ∀ k, F k ↔ JF p Ae Am k
def jnT : JRep where
  R := JR
  lt := fun ⟨_, _, _, _, _, _, h, hF⟩ hk => h.flt ((hF _).1 hk)
  stay := fun ⟨Ae, ne, ce, Am, nm, cm, h, hF⟩ _ hb => ⟨Ae, ne, ce, Am, nm, cm, h.stay fun k hk => hb k ((hF k).2 hk), hF⟩
section
variable {F : Nat → Prop} {w w1 w2 : World}
theorem Foot.refl (F : Nat → Prop) (w : World) : Foot F w w := ⟨rfl, rfl, rfl, Nat.le_refl _, fun _ _ _ => rfl⟩
theorem Foot.set_ (h : Foot F w w1) {p : Nat} (hp : F p) (i : Nat) (v : Value) : Foot F w (w1.setCell ⟨p, i, none⟩ v) :=
  ⟨h.os, h.tape, h.output, by simpa [World.setCell] using h.size, fun k hk hf => (set_other w1 p i k v fun e => hf (e ▸ hp)).trans (h.block k hk hf)⟩
theorem Foot.grown (h : Foot F w w1) {row : Option Nat} (hg : w1.grownBy w2 row) (hr : ∀ k, row = some k → F k ∨ w.heap.size ≤ k) : Foot F w w2 :=
  ⟨hg.os.trans h.os, hg.tape.trans h.tape, hg.output.trans h.output, Nat.le_trans h.size hg.size, fun k hk hf =>
    (hg.block k (Nat.lt_of_lt_of_le hk h.size) fun e => (hr k e.symm).elim hf fun h => by omega).trans (h.block k hk hf)⟩
theorem Foot.more (h : Foot F w w1) (hb : Below w1.heap.size w1 w2) : Foot F w w2 :=
  ⟨hb.os.trans h.os, hb.tape.trans h.tape, hb.output.trans h.output, Nat.le_trans h.size hb.size, fun k hk hf => (hb.block k (Nat.lt_of_lt_of_le hk h.size)).trans (h.block k hk hf)⟩
theorem JX.fin {p ne ce nm cm : Nat} {Ae Am : Option Addr} {j : JT} (h : JX w1 p Ae ne ce Am nm cm j) (hF : ∀ k, JF p Ae Am k → F k ∨ w.heap.size ≤ k) (hf : Foot F w w1) : JP jnT w p F j w1 :=
  ⟨JF p Ae Am, ⟨Ae, ne, ce, Am, nm, cm, h, fun _ => Iff.rfl⟩, hF, hf⟩
end
section
variable {P : Program} {w : World} {ops : Array Oper} {rest : List Oper} {o : Oper} {a : Act} {Q : Exit → Act → World → Prop}
/-- An append whose run is known. -/
theorem wpList_appX (hgd : o.guard = none) (s x : Operand) (t e : TypeId) (size : Nat) (A : Option Addr) (n c m : Nat) (xv : Value) (zs : List Value)
    (h : AppX P w t o.type e size A n c m xv zs) (ho : o.op = .call { callee := .builtin .append, args := #[s, x], argTypes := #[t, t] })
    (hs : a.eval s = .slice A n c) (hx : a.eval x = xv)
    (hK : ∀ A' c' w', OwnX e size w' A' (n + m) c' zs → w.grownBy w' (Value.slice A n c).ownBlock → (∀ k, (Value.slice A' (n + m) c').ownBlock = some k → (Value.slice A n c).ownBlock = some k ∨ w.heap.size ≤ k) → wpList P ops Q rest (a.put o.dst (.slice A' (n + m) c')) w') :
    wpList P ops Q (o :: rest) a w := by
  obtain ⟨A', c', w', hrun, h1, h2, h3⟩ := h
  refine wpList_plain hgd fun K hK' => ?_
  unfold Oper.wp execOp
  simp only [ho, resolve, invoke, builtin, Sem.run_bind, Sem.run_pure, Result.andThen_ok, List.map_toArray, List.map_cons, List.map_nil, hs, hx, hrun]
  exact hK' _ _ (hK A' c' w' h1 h2 h3)
theorem wp_appX {K : Act → World → Prop} (s x : Operand) (t e : TypeId) (size : Nat) (A : Option Addr) (n c m : Nat) (xv : Value) (zs : List Value)
    (h : AppX P w t o.type e size A n c m xv zs) (ho : o.op = .call { callee := .builtin .append, args := #[s, x], argTypes := #[t, t] })
    (hs : a.eval s = .slice A n c) (hx : a.eval x = xv)
    (hK : ∀ A' c' w', OwnX e size w' A' (n + m) c' zs → w.grownBy w' (Value.slice A n c).ownBlock → (∀ k, (Value.slice A' (n + m) c').ownBlock = some k → (Value.slice A n c).ownBlock = some k ∨ w.heap.size ≤ k) → K (a.put o.dst (.slice A' (n + m) c')) w') :
    o.wp P a w K Q := by
  obtain ⟨A', c', w', hrun, h1, h2, h3⟩ := h
  unfold Oper.wp execOp
  simp only [ho, resolve, invoke, builtin, Sem.run_bind, Sem.run_pure, Result.andThen_ok, List.map_toArray, List.map_cons, List.map_nil, hs, hx, hrun]
  exact hK A' c' w' h1 h2 h3
end
/-- append of events to a journal's. -/
theorem appEv {w : World} (ty : TypeId) {A : Option Addr} {n c : Nat} {l : List EvT} (h : OwnX 41 6 w A n c (flatV l)) {B : Nat} {A2 : Option Addr} {m : Nat} (c2 : Nat) {l2 : List EvT} (hr : RdV B w A2 l2) (hl : m = l2.length) (hn : n + m ≤ 1000000) :
    AppX Try.prog w 31 ty 41 6 A n c m (.slice A2 m c2) (flatV (l ++ l2)) := by
  obtain ⟨i0, hi, hz0, hz1, hz2⟩ := info_parts info_ev
  rcases A2 with _ | ad
  · obtain rfl := hr.nil_of
    subst hl
    rw [List.append_nil]
    exact run_appX_none 31 ty 41 i0 6 Try.underlying31 hi h c2
  · rw [flatV_app]
    exact run_appX 31 ty 41 i0 _ 6 48 Try.underlying31 hi hz0 hz1 hz2 (evC_size ev0) (by omega) h ad m c2 (flatV l2) (by rw [flatV_len, hl])
      (fun j u hj => by
        obtain ⟨o, h1, h2⟩ := flatV_of hj
        obtain ⟨b, off, ea, _, hra⟩ := hr _ _ h1
        injection ea with ea
        subst ea
        rw [Addr.add_mid, show off + j = off + j / 6 * 6 + j % 6 by omega]
        exact hra _ _ h2) (flatV_one l2) (by unfold maxLen; omega) (by omega)
/-- append of a checkpoint to a journal's. -/
theorem appCk {w : World} (ty : TypeId) {A : Option Addr} {n c : Nat} {l : List (Int × Nat)} (h : OwnX 71 2 w A n c (flatK l)) {g : Nat} {m : Int × Nat} (hg : w.heap[g]? = some (.cells (ckC m) 71 (0, 0))) (hn : n ≤ 2000000) :
    AppX Try.prog w 62 ty 71 2 A n c 1 (.slice (some ⟨g, 0, none⟩) 1 1) (flatK (l ++ [m])) := by
  obtain ⟨i0, hi, hz0, hz1, hz2⟩ := info_parts info_ck
  rw [flatK_app]
  exact run_appX 62 ty 71 i0 _ 2 16 Try.underlying62 hi hz0 hz1 hz2 (ckC_size (0, 0)) (by omega) h ⟨g, 0, none⟩ 1 1 (flatK [m]) (by rw [flatK_len]; rfl)
    (fun j u hj => by
      rw [Addr.add_mid, Nat.zero_add, cell_of_row w g j _ _ _ hg]
      simpa [flatK] using hj) (flatK_one [m]) (by unfold maxLen; omega) (by omega)
end Go.Proofs.Ytncmfkmgaghklaa
namespace Go.Proofs.Ytncmfkmgaghklaa
open Go.RowKit Ex
set_option maxRecDepth 100000
theorem few_of : ∀ (l : List Int) (a b : Int), l.Pairwise (· < ·) → (∀ x ∈ l, a ≤ x ∧ x ≤ b) → a ≤ b + 1 → (l.length : Int) ≤ b + 1 - a
  | [], a, b, _, _, h => by simp; omega
  | x :: l, a, b, hp, hb, _ => by
    rw [List.pairwise_cons] at hp
    have h1 := hb x (List.mem_cons_self ..)
    have ih := few_of l (x + 1) b hp.2 (fun y hy => by have := hp.1 y hy; have := hb y (List.mem_cons_of_mem _ hy); omega) (by omega)
    simp only [List.length_cons]
    omega
theorem few_ms {j : JT} (h : JOk j) : (j.ms.length : Int) ≤ j.last := by
  have hl := h.l
  have := few_of (numsJ j) 1 j.last h.r (fun x hx => by obtain ⟨m, hm, rfl⟩ := List.mem_map.1 hx; exact ⟨(h.b m hm).1, (h.b m hm).2.1⟩) (by omega)
  unfold numsJ at this
  rw [List.length_map] at this
  omega
theorem new_code (w : World) : Calls Try.prog 9 #[] w fun en w' => ∃ p F, en = .returned (ptrV p) ∧ JR w' p j0 F ∧ (∀ k, F k → w.heap.size ≤ k) ∧ Below w.heap.size w w' := by
  go_enter Try.func9, Try.ntmps9
  go_wp2_with fail
  go_ret
  refine ⟨w.heap.size, JF w.heap.size none none, rfl, ⟨none, 0, 0, none, 0, 0, ⟨?_, OwnX.nil_, fun e he => (by cases he), OwnX.nil_, by simp [j0]⟩, fun _ => Iff.rfl⟩, fun k hk => ?_, (Below.refl _ _).alloc (Nat.le_refl _) _⟩
  · exact heap_alloc_new _ _
  · rcases hk with rfl | hk | hk
    · exact Nat.le_refl _
    · cases hk
    · cases hk
section
variable {p ne ce nm cm : Nat} {Ae Am : Option Addr} {j : JT} {w : World}
theorem JX.c0 (h : JX w p Ae ne ce Am nm cm j) : w.cell? ⟨p, 0, none⟩ = some (.slice Ae ne ce) := by rw [cell_of_row w p 0 _ _ _ h.box]; rfl
theorem JX.c1 (h : JX w p Ae ne ce Am nm cm j) : w.cell? ⟨p, 1, none⟩ = some (.slice Am nm cm) := by rw [cell_of_row w p 1 _ _ _ h.box]; rfl
theorem JX.c2 (h : JX w p Ae ne ce Am nm cm j) : w.cell? ⟨p, 2, none⟩ = some (.int .i64 j.last) := by rw [cell_of_row w p 2 _ _ _ h.box]; rfl
theorem JX.fz (h : JX w p Ae ne ce Am nm cm j) (i : Nat) : w.frozen? ⟨p, i, none⟩ = false := frozen_of_row w p i _ _ h.box
end
theorem len_code (p : Nat) (j : JT) (F : Nat → Prop) (w : World) (h : JR w p j F) : Calls Try.prog 28 #[ptrV p] w fun en w' => en = .returned (.int .i64 (j.ev.length : Int)) ∧ Below w.heap.size w w' := by
  obtain ⟨Ae, ne, ce, Am, nm, cm, hx, _⟩ := h
  have c0 := hx.c0
  rw [← hx.ne_]
  clear hx
  unfold ptrV
  go_enter Try.func28, Try.ntmps28
  go_wp2_with fail
  go_ret
  exact ⟨rfl, Below.refl _ _⟩
theorem len_nil (w : World) : Calls Try.prog 28 #[.pointer none] w fun en w' => en = .returned (.int .i64 0) ∧ Below w.heap.size w w' := by
  go_enter Try.func28, Try.ntmps28
  go_wp2_with fail
  go_ret
  exact ⟨rfl, Below.refl _ _⟩
theorem next_code (p : Nat) (j : JT) (F : Nat → Prop) (w : World) (h : JR w p j F) (ho : JOk j) (hl : j.last ≤ 1000000) : Calls Try.prog 29 #[ptrV p] w fun en w' => en = .returned (.int .i64 (j.last + 1)) ∧ Below w.heap.size w w' := by
  obtain ⟨Ae, ne, ce, Am, nm, cm, hx, _⟩ := h
  have c2 := hx.c2
  have h0 := ho.l
  clear hx
  obtain ⟨k, hk⟩ : ∃ k, k = j.last := ⟨_, rfl⟩
  rw [← hk] at c2 h0 hl ⊢
  clear hk
  unfold ptrV
  go_enter Try.func29, Try.ntmps29
  go_wp2_with fail
  go_ret
  exact ⟨rfl, Below.refl _ _⟩
theorem next_nil (w : World) : Calls Try.prog 29 #[.pointer none] w fun en w' => en = .returned (.int .i64 0) ∧ Below w.heap.size w w' := by
  go_enter Try.func29, Try.ntmps29
  go_wp2_with fail
  go_ret
  exact ⟨rfl, Below.refl _ _⟩
end Go.Proofs.Ytncmfkmgaghklaa
namespace Go.Proofs.Ytncmfkmgaghklaa
open Go.RowKit Ex
set_option maxRecDepth 100000
theorem below_any (n k : Int) (w : World) : Calls Try.prog 44 #[.int .i64 n, .int .i64 k] w fun en w' => en = .returned (.bool (decide (0 ≤ n) && decide (n < k))) ∧ w = w' := by
  obtain ⟨q, hq⟩ : ∃ q, q = (decide (0 ≤ n) && decide (n < k)) := ⟨_, rfl⟩
  rw [← hq]
  by_cases h0 : 0 ≤ n
  · have d0 : decide (0 ≤ n) = true := decide_eq_true h0
    rw [d0, Bool.true_and] at hq
    have hd := hq.symm
    clear hq h0
    go_enter Try.func44, Try.ntmps44
    go_wp2_with fail
    go_ret
    exact ⟨rfl, rfl⟩
  · have d0 : decide (0 ≤ n) = false := decide_eq_false h0
    rw [d0, Bool.false_and] at hq
    subst hq
    clear h0
    go_enter Try.func44, Try.ntmps44
    go_wp2_with fail
    go_ret
    exact ⟨rfl, rfl⟩
theorem isNum_any (n : Int) (w : World) : Calls Try.prog 55 #[.int .i64 n] w fun en w' => en = .returned (.bool (decide (-1073741824 ≤ n) && decide (n ≤ 1073741824))) ∧ w = w' := by
  obtain ⟨q, hq⟩ : ∃ q, q = (decide (-1073741824 ≤ n) && decide (n ≤ 1073741824)) := ⟨_, rfl⟩
  rw [← hq]
  by_cases h0 : -1073741824 ≤ n
  · have d0 : decide (-1073741824 ≤ n) = true := decide_eq_true h0
    rw [d0, Bool.true_and] at hq
    have hd := hq.symm
    clear hq h0
    go_enter Try.func55, Try.ntmps55
    go_wp2_with fail
    go_ret
    exact ⟨rfl, rfl⟩
  · have d0 : decide (-1073741824 ≤ n) = false := decide_eq_false h0
    rw [d0, Bool.false_and] at hq
    subst hq
    clear h0
    go_enter Try.func55, Try.ntmps55
    go_wp2_with fail
    go_ret
    exact ⟨rfl, rfl⟩
/-- Whether all that its kind doesn't tell is zero. -/
def frmE (e : EvT) : Bool :=
  if e.k = 1 then true else if e.k = 0 ∨ e.k = 5 then e.d == 0 && e.e == 0 else if e.k = 4 then e.a == 0 && e.e == 0 else e.e == 0
def numE (e : EvT) : Bool :=
  if e.k = 0 ∨ e.k = 5 then (decide (0 ≤ e.a) && decide (e.a < 120)) && (decide (0 ≤ e.b) && decide (e.b < 2)) && (decide (0 ≤ e.c) && decide (e.c < 3))
  else if e.k = 1 then decide (0 ≤ e.a) && (decide (0 ≤ e.b) && decide (e.b < 11)) && decide (0 ≤ e.c) && (decide (0 ≤ e.d) && decide (e.d < 11)) && decide (0 ≤ e.e)
  else if e.k = 2 then decide (0 ≤ e.a) && (decide (0 ≤ e.b) && decide (e.b < 18)) && (e.b != 3) && (decide (-1073741824 ≤ e.d) && decide (e.d ≤ 1073741824))
  else if e.k = 3 then (decide (0 ≤ e.a) && decide (e.a < 2)) && (decide (0 ≤ e.b) && decide (e.b < 9)) && (decide (-1073741824 ≤ e.d) && decide (e.d ≤ 1073741824))
  else (decide (0 ≤ e.b) && decide (e.b < 7)) && (decide (-1073741824 ≤ e.d) && decide (e.d ≤ 1073741824))
theorem chkE_is (e : EvT) : chkE e = if decide (0 ≤ e.k) && decide (e.k < 6) then (if frmE e then (if numE e then 0 else 1) else 2) else 6 := by
  obtain ⟨k, a, b, c, d, f⟩ := e
  by_cases hk : 0 ≤ k ∧ k < 6
  · rw [show (decide (0 ≤ k) && decide (k < 6)) = true by simp [hk], if_pos rfl]
    obtain rfl | rfl | rfl | rfl | rfl | rfl : k = 0 ∨ k = 1 ∨ k = 2 ∨ k = 3 ∨ k = 4 ∨ k = 5 := by omega
    · rw [ck0]; simp [frmE, numE]; (repeat' split) <;> omega
    · rw [ck1]; simp [frmE, numE]; (repeat' split) <;> omega
    · rw [ck2]; simp [frmE, numE]; (repeat' split) <;> omega
    · rw [ck3]; simp [frmE, numE]; (repeat' split) <;> omega
    · rw [ck4]; simp [frmE, numE]; (repeat' split) <;> omega
    · rw [ck5]; simp [frmE, numE]; (repeat' split) <;> omega
  · rw [show (decide (0 ≤ k) && decide (k < 6)) = false by rw [Bool.eq_false_iff]; simp; omega, if_neg (by simp)]
    exact ckN k a b c d f (by omega)
set_option maxHeartbeats 0 in
theorem formFits_any (e : EvT) (w : World) (hk : 0 ≤ e.k ∧ e.k < 6) : Calls Try.prog 45 #[evV e] w fun en w' => en = .returned (.bool (frmE e)) ∧ Below w.heap.size w w' := by
  obtain ⟨k, a, b, c, d, f⟩ := e
  unfold evV
  simp only at hk ⊢
  go_enter Try.func45, Try.ntmps45
  go_upto_region 1 with fail
  obtain ⟨w1, hw1⟩ : ∃ w1, w1 = w.alloc (.cells #[.int .i64 k, .int .i64 a, .int .i64 b, .int .i64 c, .int .i64 d, .int .i64 f] 41) := ⟨_, rfl⟩
  have hrow : w1.heap[w.heap.size]? = some (.cells #[.int .i64 k, .int .i64 a, .int .i64 b, .int .i64 c, .int .i64 d, .int .i64 f] 41 (0, 0)) := by rw [hw1]; exact heap_alloc_new _ _
  have hb1 : Below w.heap.size w w1 := by rw [hw1]; exact (Below.refl _ _).alloc (Nat.le_refl _) _
  rw [← hw1]
  have c0 := cell_of_row w1 w.heap.size 0 _ _ _ hrow
  have c1 := cell_of_row w1 w.heap.size 1 _ _ _ hrow
  have c2 := cell_of_row w1 w.heap.size 2 _ _ _ hrow
  have c3 := cell_of_row w1 w.heap.size 3 _ _ _ hrow
  have c4 := cell_of_row w1 w.heap.size 4 _ _ _ hrow
  have c5 := cell_of_row w1 w.heap.size 5 _ _ _ hrow
  simp at c0 c1 c2 c3 c4 c5
  clear hw1
  clear hrow
  obtain rfl | rfl | rfl | rfl | rfl | rfl : k = 0 ∨ k = 1 ∨ k = 2 ∨ k = 3 ∨ k = 4 ∨ k = 5 := by omega
  all_goals
    go_wp2_with fail
    all_goals (go_ret; refine ⟨?_, hb1⟩; simp [frmE, *])
set_option maxHeartbeats 0 in
theorem numbersFit_any (e : EvT) (w : World) (hk : 0 ≤ e.k ∧ e.k < 6) : Calls Try.prog 46 #[evV e] w fun en w' => en = .returned (.bool (numE e)) ∧ Below w.heap.size w w' := by
  obtain ⟨k, a, b, c, d, f⟩ := e
  unfold evV
  simp only at hk ⊢
  obtain ⟨r, hr⟩ : ∃ r, r = numE ⟨k, a, b, c, d, f⟩ := ⟨_, rfl⟩
  rw [← hr]
  go_enter Try.func46, Try.ntmps46
  go_upto_region 1 with fail
  obtain ⟨w1, hw1⟩ : ∃ w1, w1 = w.alloc (.cells #[.int .i64 k, .int .i64 a, .int .i64 b, .int .i64 c, .int .i64 d, .int .i64 f] 41) := ⟨_, rfl⟩
  have hrow : w1.heap[w.heap.size]? = some (.cells #[.int .i64 k, .int .i64 a, .int .i64 b, .int .i64 c, .int .i64 d, .int .i64 f] 41 (0, 0)) := by rw [hw1]; exact heap_alloc_new _ _
  have hb1 : Below w.heap.size w w1 := by rw [hw1]; exact (Below.refl _ _).alloc (Nat.le_refl _) _
  rw [← hw1]
  have c0 := cell_of_row w1 w.heap.size 0 _ _ _ hrow
  have c1 := cell_of_row w1 w.heap.size 1 _ _ _ hrow
  have c2 := cell_of_row w1 w.heap.size 2 _ _ _ hrow
  have c3 := cell_of_row w1 w.heap.size 3 _ _ _ hrow
  have c4 := cell_of_row w1 w.heap.size 4 _ _ _ hrow
  have c5 := cell_of_row w1 w.heap.size 5 _ _ _ hrow
  simp at c0 c1 c2 c3 c4 c5
  clear hw1
  clear hrow
  obtain rfl | rfl | rfl | rfl | rfl | rfl : k = 0 ∨ k = 1 ∨ k = 2 ∨ k = 3 ∨ k = 4 ∨ k = 5 := by omega
  · have hE : numE ⟨0, a, b, c, d, f⟩ = ((decide (0 ≤ a) && decide (a < 120)) && (decide (0 ≤ b) && decide (b < 2)) && (decide (0 ≤ c) && decide (c < 3))) := rfl
    rw [hE] at hr
    clear hE hk
    have h1 := fun w => below_any a 120 w
    generalize (decide (0 ≤ a) && decide (a < 120)) = q1 at h1 hr
    have h2 := fun w => below_any b 2 w
    generalize (decide (0 ≤ b) && decide (b < 2)) = q2 at h2 hr
    have h3 := fun w => below_any c 3 w
    generalize (decide (0 ≤ c) && decide (c < 3)) = q3 at h3 hr
    cases q1
    · subst hr
      go_wp2_with fail
      refine (h1 _).mono ?_
      rintro en w2 ⟨rfl, rfl⟩
      go_wp2_with fail
      go_ret
      exact ⟨rfl, hb1⟩
    cases q2
    · subst hr
      go_wp2_with fail
      refine (h1 _).mono ?_
      rintro en w2 ⟨rfl, rfl⟩
      go_wp2_with fail
      refine (h2 _).mono ?_
      rintro en w2 ⟨rfl, rfl⟩
      go_wp2_with fail
      go_ret
      exact ⟨rfl, hb1⟩
    subst hr
    go_wp2_with fail
    refine (h1 _).mono ?_
    rintro en w2 ⟨rfl, rfl⟩
    go_wp2_with fail
    refine (h2 _).mono ?_
    rintro en w2 ⟨rfl, rfl⟩
    go_wp2_with fail
    refine (h3 _).mono ?_
    rintro en w2 ⟨rfl, rfl⟩
    go_wp2_with fail
    go_ret
    exact ⟨rfl, hb1⟩
  · have hE : numE ⟨1, a, b, c, d, f⟩ = (decide (0 ≤ a) && (decide (0 ≤ b) && decide (b < 11)) && decide (0 ≤ c) && (decide (0 ≤ d) && decide (d < 11)) && decide (0 ≤ f)) := rfl
    rw [hE] at hr
    clear hE hk
    obtain ⟨q1, hd1⟩ : ∃ q, decide (0 ≤ a) = q := ⟨_, rfl⟩
    rw [hd1] at hr
    have h2 := fun w => below_any b 11 w
    generalize (decide (0 ≤ b) && decide (b < 11)) = q2 at h2 hr
    obtain ⟨q3, hd3⟩ : ∃ q, decide (0 ≤ c) = q := ⟨_, rfl⟩
    rw [hd3] at hr
    have h4 := fun w => below_any d 11 w
    generalize (decide (0 ≤ d) && decide (d < 11)) = q4 at h4 hr
    obtain ⟨q5, hd5⟩ : ∃ q, decide (0 ≤ f) = q := ⟨_, rfl⟩
    rw [hd5] at hr
    cases q1
    · subst hr
      go_wp2_with fail
      go_ret
      exact ⟨rfl, hb1⟩
    cases q2
    · subst hr
      go_wp2_with fail
      refine (h2 _).mono ?_
      rintro en w2 ⟨rfl, rfl⟩
      go_wp2_with fail
      go_ret
      exact ⟨rfl, hb1⟩
    cases q3
    · subst hr
      go_wp2_with fail
      refine (h2 _).mono ?_
      rintro en w2 ⟨rfl, rfl⟩
      go_wp2_with fail
      go_ret
      exact ⟨rfl, hb1⟩
    cases q4
    · subst hr
      go_wp2_with fail
      refine (h2 _).mono ?_
      rintro en w2 ⟨rfl, rfl⟩
      go_wp2_with fail
      refine (h4 _).mono ?_
      rintro en w2 ⟨rfl, rfl⟩
      go_wp2_with fail
      go_ret
      exact ⟨rfl, hb1⟩
    subst hr
    go_wp2_with fail
    refine (h2 _).mono ?_
    rintro en w2 ⟨rfl, rfl⟩
    go_wp2_with fail
    refine (h4 _).mono ?_
    rintro en w2 ⟨rfl, rfl⟩
    go_wp2_with fail
    go_ret
    exact ⟨rfl, hb1⟩
  · have hE : numE ⟨2, a, b, c, d, f⟩ = (decide (0 ≤ a) && (decide (0 ≤ b) && decide (b < 18)) && (b != 3) && (decide (-1073741824 ≤ d) && decide (d ≤ 1073741824))) := rfl
    rw [hE] at hr
    clear hE hk
    obtain ⟨q1, hd1⟩ : ∃ q, decide (0 ≤ a) = q := ⟨_, rfl⟩
    rw [hd1] at hr
    have h2 := fun w => below_any b 18 w
    generalize (decide (0 ≤ b) && decide (b < 18)) = q2 at h2 hr
    obtain ⟨q3, hd3⟩ : ∃ q, (b != 3) = q := ⟨_, rfl⟩
    rw [hd3] at hr
    have h4 := fun w => isNum_any d w
    generalize (decide (-1073741824 ≤ d) && decide (d ≤ 1073741824)) = q4 at h4 hr
    cases q1
    · subst hr
      go_wp2_with fail
      go_ret
      exact ⟨rfl, hb1⟩
    cases q2
    · subst hr
      go_wp2_with fail
      refine (h2 _).mono ?_
      rintro en w2 ⟨rfl, rfl⟩
      go_wp2_with fail
      go_ret
      exact ⟨rfl, hb1⟩
    cases q3
    · subst hr
      go_wp2_with fail
      refine (h2 _).mono ?_
      rintro en w2 ⟨rfl, rfl⟩
      go_wp2_with fail
      go_ret
      exact ⟨rfl, hb1⟩
    subst hr
    go_wp2_with fail
    refine (h2 _).mono ?_
    rintro en w2 ⟨rfl, rfl⟩
    go_wp2_with fail
    refine (h4 _).mono ?_
    rintro en w2 ⟨rfl, rfl⟩
    go_wp2_with fail
    go_ret
    exact ⟨rfl, hb1⟩
  · have hE : numE ⟨3, a, b, c, d, f⟩ = ((decide (0 ≤ a) && decide (a < 2)) && (decide (0 ≤ b) && decide (b < 9)) && (decide (-1073741824 ≤ d) && decide (d ≤ 1073741824))) := rfl
    rw [hE] at hr
    clear hE hk
    have h1 := fun w => below_any a 2 w
    generalize (decide (0 ≤ a) && decide (a < 2)) = q1 at h1 hr
    have h2 := fun w => below_any b 9 w
    generalize (decide (0 ≤ b) && decide (b < 9)) = q2 at h2 hr
    have h3 := fun w => isNum_any d w
    generalize (decide (-1073741824 ≤ d) && decide (d ≤ 1073741824)) = q3 at h3 hr
    cases q1
    · subst hr
      go_wp2_with fail
      refine (h1 _).mono ?_
      rintro en w2 ⟨rfl, rfl⟩
      go_wp2_with fail
      go_ret
      exact ⟨rfl, hb1⟩
    cases q2
    · subst hr
      go_wp2_with fail
      refine (h1 _).mono ?_
      rintro en w2 ⟨rfl, rfl⟩
      go_wp2_with fail
      refine (h2 _).mono ?_
      rintro en w2 ⟨rfl, rfl⟩
      go_wp2_with fail
      go_ret
      exact ⟨rfl, hb1⟩
    subst hr
    go_wp2_with fail
    refine (h1 _).mono ?_
    rintro en w2 ⟨rfl, rfl⟩
    go_wp2_with fail
    refine (h2 _).mono ?_
    rintro en w2 ⟨rfl, rfl⟩
    go_wp2_with fail
    refine (h3 _).mono ?_
    rintro en w2 ⟨rfl, rfl⟩
    go_wp2_with fail
    go_ret
    exact ⟨rfl, hb1⟩
  · have hE : numE ⟨4, a, b, c, d, f⟩ = ((decide (0 ≤ b) && decide (b < 7)) && (decide (-1073741824 ≤ d) && decide (d ≤ 1073741824))) := rfl
    rw [hE] at hr
    clear hE hk
    have h1 := fun w => below_any b 7 w
    generalize (decide (0 ≤ b) && decide (b < 7)) = q1 at h1 hr
    have h2 := fun w => isNum_any d w
    generalize (decide (-1073741824 ≤ d) && decide (d ≤ 1073741824)) = q2 at h2 hr
    cases q1
    · subst hr
      go_wp2_with fail
      refine (h1 _).mono ?_
      rintro en w2 ⟨rfl, rfl⟩
      go_wp2_with fail
      go_ret
      exact ⟨rfl, hb1⟩
    subst hr
    go_wp2_with fail
    refine (h1 _).mono ?_
    rintro en w2 ⟨rfl, rfl⟩
    go_wp2_with fail
    refine (h2 _).mono ?_
    rintro en w2 ⟨rfl, rfl⟩
    go_wp2_with fail
    go_ret
    exact ⟨rfl, hb1⟩
  · have hE : numE ⟨5, a, b, c, d, f⟩ = ((decide (0 ≤ a) && decide (a < 120)) && (decide (0 ≤ b) && decide (b < 2)) && (decide (0 ≤ c) && decide (c < 3))) := rfl
    rw [hE] at hr
    clear hE hk
    have h1 := fun w => below_any a 120 w
    generalize (decide (0 ≤ a) && decide (a < 120)) = q1 at h1 hr
    have h2 := fun w => below_any b 2 w
    generalize (decide (0 ≤ b) && decide (b < 2)) = q2 at h2 hr
    have h3 := fun w => below_any c 3 w
    generalize (decide (0 ≤ c) && decide (c < 3)) = q3 at h3 hr
    cases q1
    · subst hr
      go_wp2_with fail
      refine (h1 _).mono ?_
      rintro en w2 ⟨rfl, rfl⟩
      go_wp2_with fail
      go_ret
      exact ⟨rfl, hb1⟩
    cases q2
    · subst hr
      go_wp2_with fail
      refine (h1 _).mono ?_
      rintro en w2 ⟨rfl, rfl⟩
      go_wp2_with fail
      refine (h2 _).mono ?_
      rintro en w2 ⟨rfl, rfl⟩
      go_wp2_with fail
      go_ret
      exact ⟨rfl, hb1⟩
    subst hr
    go_wp2_with fail
    refine (h1 _).mono ?_
    rintro en w2 ⟨rfl, rfl⟩
    go_wp2_with fail
    refine (h2 _).mono ?_
    rintro en w2 ⟨rfl, rfl⟩
    go_wp2_with fail
    refine (h3 _).mono ?_
    rintro en w2 ⟨rfl, rfl⟩
    go_wp2_with fail
    go_ret
    exact ⟨rfl, hb1⟩
theorem sets_any (e : EvT) (w : World) : Calls Try.prog 56 #[evV e] w fun en w' => en = .returned (.bool (decide (2 ≤ e.k) && decide (e.k ≤ 4))) ∧ Below w.heap.size w w' := by
  obtain ⟨k, a, b, c, d, f⟩ := e
  unfold evV
  simp only
  obtain ⟨r, hr⟩ : ∃ r, r = (decide (2 ≤ k) && decide (k ≤ 4)) := ⟨_, rfl⟩
  rw [← hr]
  go_enter Try.func56, Try.ntmps56
  go_upto_region 1 with fail
  obtain ⟨w1, hw1⟩ : ∃ w1, w1 = w.alloc (.cells #[.int .i64 k, .int .i64 a, .int .i64 b, .int .i64 c, .int .i64 d, .int .i64 f] 41) := ⟨_, rfl⟩
  have hrow : w1.heap[w.heap.size]? = some (.cells #[.int .i64 k, .int .i64 a, .int .i64 b, .int .i64 c, .int .i64 d, .int .i64 f] 41 (0, 0)) := by rw [hw1]; exact heap_alloc_new _ _
  have hb1 : Below w.heap.size w w1 := by rw [hw1]; exact (Below.refl _ _).alloc (Nat.le_refl _) _
  rw [← hw1]
  have c0 := cell_of_row w1 w.heap.size 0 _ _ _ hrow
  have c1 := cell_of_row w1 w.heap.size 1 _ _ _ hrow
  have c2 := cell_of_row w1 w.heap.size 2 _ _ _ hrow
  have c3 := cell_of_row w1 w.heap.size 3 _ _ _ hrow
  have c4 := cell_of_row w1 w.heap.size 4 _ _ _ hrow
  have c5 := cell_of_row w1 w.heap.size 5 _ _ _ hrow
  simp at c0 c1 c2 c3 c4 c5
  clear hw1
  clear hrow
  by_cases k2 : k = 2
  · subst k2
    subst hr
    go_wp2_with fail
    go_ret
    exact ⟨rfl, hb1⟩
  by_cases k3 : k = 3
  · subst k3
    subst hr
    go_wp2_with fail
    go_ret
    exact ⟨rfl, hb1⟩
  have d2 : (k == 2) = false := by simpa using k2
  have d3 : (k == 3) = false := by simpa using k3
  have d4 : (k == 4) = (decide (2 ≤ k) && decide (k ≤ 4)) := by rw [Bool.eq_iff_iff]; simp; omega
  rw [← hr] at d4
  clear hr
  go_wp2_with fail
  go_ret
  exact ⟨rfl, hb1⟩
set_option maxHeartbeats 0 in
theorem check_code (e : EvT) (w : World) : Calls Try.prog 33 #[evV e] w fun en w' => en = .returned (errV (chkE e)) ∧ Below w.heap.size w w' := by
  have hch := chkE_is e
  obtain ⟨r, hr⟩ : ∃ r, r = chkE e := ⟨_, rfl⟩
  rw [← hr] at hch ⊢
  have hf := fun w => formFits_any e w
  have hn := fun w => numbersFit_any e w
  have hbl := fun w => below_any e.k 6 w
  clear hr
  go_enter Try.func33, Try.ntmps33
  go_upto_region 1 with fail
  obtain ⟨w1, hw1⟩ : ∃ w1, w1 = w.alloc (.cells (evC e) 41) := ⟨_, rfl⟩
  have hrow : EvB w1 w.heap.size e := by rw [hw1]; exact heap_alloc_new _ _
  have hb1 : Below w.heap.size w w1 := by rw [hw1]; exact (Below.refl _ _).alloc (Nat.le_refl _) _
  show Code.wp _ _ _ _ (w.alloc (.cells (evC e) 41))
  rw [← hw1]
  have hg1 := hrow.lt
  obtain ⟨g, hg⟩ : ∃ g, g = w.heap.size := ⟨_, rfl⟩
  rw [← hg] at hrow hg1 ⊢
  clear hw1 hg
  have c0 := hrow.cells.1
  have hsE := ev_size e
  obtain ⟨es, hes⟩ : ∃ es, es = evC e := ⟨_, rfl⟩
  rw [show evV e = .agg es by rw [hes]; rfl] at hf hn
  have hrow1 : w1.heap[g]? = some (.cells es 41 (0, 0)) := by rw [hes]; exact hrow
  rw [← hes] at hsE
  have HR := Lib.hid hrow
  clear hes hrow
  by_cases hk : 0 ≤ e.k ∧ e.k < 6
  case neg =>
    have d0 : (decide (0 ≤ e.k) && decide (e.k < 6)) = false := by rw [Bool.eq_false_iff]; simp; omega
    rw [d0] at hbl hch
    rw [if_neg (by simp)] at hch
    subst hch
    clear d0
    go_wp2_with fail
    refine (hbl _).mono ?_
    rintro en w2 ⟨rfl, rfl⟩
    go_wp2_with fail
    go_ret
    exact ⟨rfl, hb1⟩
  have hf := fun w => hf w hk
  have hn := fun w => hn w hk
  have d0 : (decide (0 ≤ e.k) && decide (e.k < 6)) = true := by simp; omega
  rw [d0] at hbl hch
  rw [if_pos rfl] at hch
  clear d0
  generalize frmE e = q1 at hf hch
  generalize numE e = q2 at hn hch
  cases q1
  · rw [if_neg (by simp)] at hch
    subst hch
    go_wp2_with (refine wpList_load_row rfl 41 (.tmp 1) rfl g rfl 41 _ (0, 0) _ hrow1 Try.underlying41 rfl hsE ?_)
    refine (hbl _).mono ?_
    rintro en w2 ⟨rfl, rfl⟩
    go_wp2_with (refine wpList_load_row rfl 41 (.tmp 1) rfl g rfl 41 _ (0, 0) _ hrow1 Try.underlying41 rfl hsE ?_)
    refine (hf _).mono ?_
    rintro en w2 ⟨rfl, hb2⟩
    go_wp2_with fail
    go_ret
    exact ⟨rfl, keepB hb2 hb1⟩
  rw [if_pos rfl] at hch
  go_wp2_with fail
  refine (hbl _).mono ?_
  rintro en w2 ⟨rfl, rfl⟩
  go_wp2_with (refine wpList_load_row rfl 41 (.tmp 1) rfl g rfl 41 _ (0, 0) _ hrow1 Try.underlying41 rfl hsE ?_)
  refine (hf _).mono ?_
  rintro en w2 ⟨rfl, hb2⟩
  have hrow2 := (hb2.block g hg1).trans hrow1
  have hbb := keepB hb2 hb1
  go_wp2_with (refine wpList_load_row rfl 41 (.tmp 1) rfl g rfl 41 _ (0, 0) _ hrow2 Try.underlying41 rfl hsE ?_)
  refine (hn _).mono ?_
  rintro en w3 ⟨rfl, hb3⟩
  have hbc := keepB hb3 hbb
  cases q2
  · rw [if_neg (by simp)] at hch
    subst hch
    go_wp2_with fail
    go_ret
    exact ⟨rfl, hbc⟩
  · rw [if_pos rfl] at hch
    subst hch
    go_wp2_with fail
    go_ret
    exact ⟨rfl, hbc⟩
end Go.Proofs.Ytncmfkmgaghklaa
namespace Go.Proofs.Ytncmfkmgaghklaa
open Go.RowKit Ex
set_option maxRecDepth 100000
theorem chk_nextJ {l : List EvT} {k : Nat} {e : EvT} (h : l[k]? = some e) : chkL (l.drop k) = if chkE e ≠ 0 then chkE e else chkL (l.drop (k + 1)) := by
  have hk := (List.getElem?_eq_some_iff.1 h).1
  rw [List.drop_eq_getElem_cons hk, (List.getElem?_eq_some_iff.1 h).2]; rfl
/-- What Add answers. -/
def AddQJ (F : Nat → Prop) (w : World) (p : Nat) (j : JT) (l : List EvT) (en : Ending) (w' : World) : Prop := en = .returned (errV (addE j l)) ∧ JP jnT w p F (addJ j l) w'
theorem add_bad {F : Nat → Prop} {w w' : World} {p ne ce nm cm : Nat} {Ae Am : Option Addr} {j : JT} {l : List EvT} {r : Int} (hx : JX w p Ae ne ce Am nm cm j) (hF : ∀ k, F k ↔ JF p Ae Am k) (hr : addE j l = r) (h0 : r ≠ 0) (hb : Below w.heap.size w w') : AddQJ F w p j l (.returned (errV r)) w' := by
  refine ⟨by rw [hr], ?_⟩
  unfold addJ
  rw [if_neg (by rw [hr]; exact h0)]
  exact (hx.keep hb).fin (fun k hk => .inl ((hF k).2 hk)) (Foot.of hb)
set_option linter.unusedSimpArgs false in
set_option maxHeartbeats 0 in
theorem add_code (p : Nat) (j : JT) (F : Nat → Prop) (A : Option Addr) (n c : Nat) (l : List EvT) (w : World) (h : JR w p j F) (ho : JOk j) (hE : Evs w.heap.size w A n l) (hnc : n ≤ c) (hcm : c ≤ maxLen) :
    Calls Try.prog 13 #[ptrV p, .slice A n c] w (AddQJ F w p j l) := by
  obtain ⟨Ae, ne, ce, Am, nm, cm, hx, hF⟩ := h
  have HX := Lib.hid hx
  have HF := Lib.hid hF
  have HE := Lib.hid hE
  have HN := Lib.hid (show ne = j.ev.length from hx.ne_)
  have hne : ne ≤ 65536 := by rw [hx.ne_]; exact ho.n
  have p2 : (n : Int) ≤ 9223372036854775807 := by unfold maxLen at hcm; omega
  have HC0 := Lib.hid (show chkL l = chkL (l.drop 0) from rfl)
  have HB0 := Lib.hid (Below.refl w.heap.size w)
  unfold ptrV
  clear hx hF hE ho hnc hcm
  go_enter Try.func13, Try.ntmps13
  go_upto_region 4 with fail
  go_loopw [13] (fun i wr => ∃ k : Nat, i = .int .i64 ((k : Nat) : Int) ∧ k ≤ n ∧ Hid (chkL l = chkL (l.drop k)) ∧ Hid (Below w.heap.size w wr)) (fun i _ => n - (intOf i).toNat)
  case atStart => exact ⟨0, rfl, by omega, HC0, HB0⟩
  case round =>
    clear HC0 HB0
    obtain ⟨k, rfl, hk, HC, HB⟩ := hrel
    by_cases hlt : k < n
    · have hlt' : k < l.length := by rw [← HE.out.n]; exact hlt
      obtain ⟨b1, o1, ea, hb1, g1⟩ := HE.out.r.at_ hlt'
      subst ea
      have G1 := Lib.hid (range_below HB.out hb1 g1)
      obtain ⟨e, he⟩ : ∃ e, e = l[k] := ⟨_, rfl⟩
      rw [← he] at G1
      have HX1 := Lib.hid (chk_nextJ (show l[k]? = some e by rw [he]; exact List.getElem?_eq_getElem hlt'))
      have p0 : (0 : Int) ≤ (k : Int) := by omega
      have p1 : (k : Int) < (n : Int) := by omega
      clear he g1 hb1 hlt'
      have hsz := ev_size e
      have hone := evC_one e
      have hs6 : (evC ev0).size = (evC e).size := rfl
      have hz6 := ev0_is
      have hnew : (World.alloc wr (.cells (evC ev0) 41)).heap[(World.heap wr).size]? = some (.cells (evC ev0) 41 (0, 0)) := heap_alloc_new _ _
      obtain ⟨es, hes⟩ : ∃ es, es = evC e := ⟨_, rfl⟩
      have hev : evV e = .agg es := by rw [hes]; rfl
      have HEs := Lib.hid hes
      rw [← hes] at hsz hs6 hone
      clear hes
      go_upto_region 6 with (first
        | (refine load_evm rfl (.tmp 15) rfl b1 (o1 + k * 6) rfl e G1.out ?_; rw [hev])
        | (refine wpList_store_row rfl 41 (.tmp 6) (.tmp 16) rfl (World.heap wr).size _ rfl rfl 41 (evC ev0) hnew hsz hs6 hone ?_))
      rw [HEs.out]
      clear hnew hsz hs6 hone hz6 hev HEs es
      obtain ⟨w4, hw4, he4, hb4⟩ := ev_box wr e
      rw [← hw4]
      obtain ⟨ge, hge⟩ : ∃ g, g = (World.heap wr).size := ⟨_, rfl⟩
      rw [← hge] at he4
      rw [← hge]
      have HGge := Lib.hid hge
      clear hw4 hge
      have HB4 := Lib.hid (keepB hb4 HB.out)
      clear HB hb4 G1
      go_wp2_with (refine load_ev (by rfl) (.tmp 6) rfl ge rfl e he4 ?_)
      refine (check_code e w4).mono ?_
      rintro en w5 ⟨rfl, hb5⟩
      have HB5 := Lib.hid (keepB hb5 HB4.out)
      clear HB4 hb5 he4 HGge
      obtain ⟨r, hr⟩ : ∃ r, r = chkE e := ⟨_, rfl⟩
      rw [← hr] at HX1 ⊢
      clear hr
      by_cases hr0 : r = 0
      · subst hr0
        have HC6 := Lib.hid (show chkL l = chkL (l.drop (k + 1)) from HC.out.trans (HX1.out.trans (if_neg (by simp))))
        rw [errV_nil]
        clear HC HX1
        go_wp2_with fail
        go_roundw
        case rel => exact ⟨k + 1, by go_num, by omega, HC6, HB5⟩
        case measure => simp [intOf]; omega
      · have hfl : chkL l = r := HC.out.trans (HX1.out.trans (if_pos hr0))
        have HQ := Lib.hid (add_bad HX.out HF.out (show addE j l = r from by unfold addE; rw [hfl, if_pos hr0]) hr0 HB5.out)
        rw [errV_err hr0] at HQ ⊢
        clear hr0 hfl HC HX1
        go_wp2_with fail
        go_ret
        exact HQ.out
    · obtain rfl : n = k := by omega
      have hcl : chkL l = 0 := by rw [HC.out, HE.out.n, List.drop_length]; rfl
      have hx1 := HX.out.keep HB.out
      have c0 := hx1.c0
      have hE1 := HE.out.r.below HB.out
      have HX1 := Lib.hid hx1
      clear HC hx1
      by_cases hf : 65536 < ne + n
      · have HQ := Lib.hid (add_bad HX.out HF.out (show addE j l = 5 from by unfold addE; rw [hcl, if_neg (by simp), if_pos (by rw [← HN.out, ← HE.out.n]; exact hf)]) (by decide) HB.out)
        have d0 : decide ((65536 : Int) - (ne : Int) < (n : Int)) = true := by simp; omega
        rw [errV_err (by decide)] at HQ
        clear hcl hE1 hf
        go_wp2_with fail
        go_ret
        exact HQ.out
      · have d0 : decide ((65536 : Int) - (ne : Int) < (n : Int)) = false := by simp; omega
        have haddE : addE j l = 0 := by unfold addE; rw [hcl, if_neg (by simp), if_neg (by rw [← HN.out, ← HE.out.n]; exact hf)]
        have HAE := Lib.hid haddE
        have f0 := HX1.out.fz 0
        have hap := fun ty => appEv ty HX1.out.ev c hE1 HE.out.n (by omega)
        clear hcl hE1 hf haddE
        go_upto_region 12 with fail
        go_upto_region 13 with (at_builtin; refine wpList_appX rfl (.tmp 37) (.tmp 38) 31 41 6 Ae ne ce n _ _ (hap _) rfl rfl rfl ?_; intro A4 c4 w4 ho4 hg4 hb4; have hp4 := hg4.block p HX1.out.lt (fun e => HX1.out.pe e.symm rfl); have q4 : w4.cell? ⟨p, 0, none⟩ = some (.slice Ae ne ce) := (World.cell?_of_block (a := ⟨p, 0, none⟩) hp4).trans c0; have q5 : w4.frozen? ⟨p, 0, none⟩ = false := (World.frozen?_of_block (a := ⟨p, 0, none⟩) hp4).trans f0)
        have hx5 := HX1.out.setEv hp4 (fun k hk => hg4.block k (HX1.out.ms.lt hk) fun e => HX1.out.em e.symm hk) ho4 (fun e he => by
          rcases List.mem_append.1 he with he | he
          · exact HX1.out.ei e he
          · exact HE.out.i e he)
        have hf5 := ((Foot.of (F := F) HB.out).grown hg4 (fun k hk => .inl ((HF.out k).2 (.inr (.inl (by rw [← own_ob Ae ne ce]; exact hk)))))).set_ ((HF.out p).2 (.inl rfl)) 0 (.slice A4 (ne + n) c4)
        have HQ := Lib.hid (show AddQJ F w p j l (.returned (errV 0)) (w4.setCell ⟨p, 0, none⟩ (.slice A4 (ne + n) c4)) from by
          refine ⟨by rw [HAE.out], ?_⟩
          unfold addJ
          rw [if_pos HAE.out]
          refine hx5.fin (fun k hk => ?_) hf5
          rcases hk with rfl | hk | hk
          · exact .inl ((HF.out k).2 (.inl rfl))
          · rw [← own_ob A4 (ne + n) c4] at hk
            rcases hb4 k hk with hk | hk
            · exact .inl ((HF.out k).2 (.inr (.inl (by rw [← own_ob Ae ne ce]; exact hk))))
            · exact .inr (Nat.le_trans HB.out.size hk)
          · exact .inl ((HF.out k).2 (.inr (.inr hk))))
        rw [errV_nil] at HQ
        clear hx5 hf5 ho4 hg4 hb4 hp4 q4 q5 c0 f0
        go_wp2_with fail
        go_ret
        exact HQ.out
theorem add_nil (A : Option Addr) (n c : Nat) (w : World) : Calls Try.prog 13 #[.pointer none, .slice A n c] w fun en w' => en = .returned (errV 4) ∧ Below w.heap.size w w' := by
  rw [errV_err (by decide)]
  go_enter Try.func13, Try.ntmps13
  go_wp2_with fail
  go_ret
  exact ⟨rfl, Below.refl _ _⟩
end Go.Proofs.Ytncmfkmgaghklaa
namespace Go.Proofs.Ytncmfkmgaghklaa
open Go.RowKit Ex
set_option maxRecDepth 100000
/-- A journal's box. -/
def JB3 (W : World) (p : Nat) (Ae : Option Addr) (ne ce : Nat) (Am : Option Addr) (nm cm : Nat) (k : Int) : Prop := W.heap[p]? = some (.cells #[.slice Ae ne ce, .slice Am nm cm, .int .i64 k] 64 (0, 0))
theorem ck_build (a b : Int) (W : World) : (Instr.build 71 #[(0, .int .i64 a), (1, .int .i64 b)]).run Try.prog W = .ok (.agg #[.int .i64 a, .int .i64 b]) W := by kernel_rfl
theorem bs_ck (m : Int × Nat) (W : World) : (Instr.buildSlice 62 1 #[(0, .agg (ckC m))]).run Try.prog W = .ok (.slice (some ⟨W.heap.size, 0, none⟩) 1 1) (W.alloc (.cells (ckC m) 71)) := by obtain ⟨a, b⟩ := m; kernel_rfl
theorem wp_bsCk {o : Oper} {a : Act} {w : World} {K : Act → World → Prop} {Q : Exit → Act → World → Prop} (x : Operand) (ho : o.op = .buildSlice 62 1 #[(0, x)]) (m : Int × Nat) (hx : a.eval x = .agg (ckC m))
    (hK : K (a.put o.dst (.slice (some ⟨w.heap.size, 0, none⟩) 1 1)) (w.alloc (.cells (ckC m) 71))) : o.wp Try.prog a w K Q := by
  unfold Oper.wp
  simp [execOp, ho, hx, bs_ck, Result.andThen]
  exact hK
/-- What Mark's append leaves of the box. -/
def SJ (p : Nat) (Ae : Option Addr) (ne ce : Nat) (k : Int) (W : World) : Prop := W.cell? ⟨p, 0, none⟩ = some (.slice Ae ne ce) ∧ W.cell? ⟨p, 2, none⟩ = some (.int .i64 k)
theorem sj_of {W : World} {p : Nat} {Ae : Option Addr} {ne ce : Nat} {Am : Option Addr} {nm cm : Nat} {k : Int} (h : JB3 W p Ae ne ce Am nm cm k) : SJ p Ae ne ce k W := ⟨by rw [cell_of_row W p 0 _ _ _ h]; rfl, by rw [cell_of_row W p 2 _ _ _ h]; rfl⟩
theorem mark_nil (w : World) : Calls Try.prog 15 #[.pointer none] w fun en w' => en = .returned (.int .i64 0) ∧ Below w.heap.size w w' := by
  go_enter Try.func15, Try.ntmps15
  go_wp2_with fail
  go_ret
  exact ⟨rfl, Below.refl _ _⟩
set_option linter.unusedSimpArgs false in
set_option maxHeartbeats 0 in
theorem mark_code (p : Nat) (j : JT) (F : Nat → Prop) (w : World) (h : JR w p j F) (ho : JOk j) (hl : j.last ≤ 1000000) :
    Calls Try.prog 15 #[ptrV p] w fun en w' => en = .returned (.int .i64 (j.last + 1)) ∧ JP jnT w p F (markJ j) w' := by
  obtain ⟨Ae, ne, ce, Am, nm, cm, hx, hF⟩ := h
  have h0 := ho.l
  have hms := few_ms ho
  obtain ⟨k, hk⟩ : ∃ k, k = j.last := ⟨_, rfl⟩
  obtain ⟨k1, hk1⟩ : ∃ k1, k1 = k + 1 := ⟨_, rfl⟩
  have HX := Lib.hid hx
  have HF := Lib.hid hF
  have HK := Lib.hid (show k = j.last ∧ k1 = k + 1 from ⟨hk, hk1⟩)
  have c2 : w.cell? ⟨p, 2, none⟩ = some (.int .i64 k) := by rw [hk]; exact hx.c2
  have f2 := hx.fz 2
  have ek : IntKind.i64.wrap (k + 1) = k1 := by rw [i64_in (by omega) (by omega), hk1]
  rw [← hk, ← hk1]
  unfold ptrV
  have HM := Lib.hid hms
  have HL := Lib.hid hl
  clear hx hF hk hk1 h0 hl hms ho
  go_enter Try.func15, Try.ntmps15
  go_upto_region 4 with fail
  rename_i K0 hK0
  have hx1 := HX.out.setLast k1
  obtain ⟨w1, hw1⟩ : ∃ w1, w1 = w.setCell ⟨p, 2, none⟩ (.int .i64 k1) := ⟨_, rfl⟩
  have hf1 : Foot F w w1 := by rw [hw1]; exact (Foot.refl F w).set_ ((HF.out p).2 (.inl rfl)) 2 _
  rw [← hw1] at hx1
  rw [← hw1]
  clear hw1 c2 f2
  have hx1d : JX w1.drew p Ae ne ce Am nm cm ⟨j.ev, j.ms, k1⟩ := hx1.stay fun _ _ => rfl
  have hfd : Foot F w w1.drew := ⟨hf1.os, hf1.tape, hf1.output, hf1.size, hf1.block⟩
  have k0 : ∀ W, SJ p Ae ne ce k1 W → W.cell? ⟨p, 0, none⟩ = some (.slice Ae ne ce) := fun W h => h.1
  have k2 : ∀ W, SJ p Ae ne ce k1 W → W.cell? ⟨p, 2, none⟩ = some (.int .i64 k1) := fun W h => h.2
  have hb := fun W => ck_build k1 (ne : Int) W
  refine wp_region_held_drew (S := SJ p Ae ne ce k1) (by kernel_rfl) (sj_of hx1d.box) (fun hHeld => ?_)
  obtain ⟨w2, hw2⟩ : ∃ w2, w2 = w1.drew := ⟨_, rfl⟩
  rw [← hw2] at hx1d hfd hHeld
  rw [← hw2]
  clear hw2 hx1 hf1
  refine wpAnyH_take (i := 0) (v := ?_) rfl (by kernel_rfl) (by kernel_rfl) (by kernel_rfl) (fun _ _ _ h => h) (Or.inl ⟨by rfl, ?_⟩) hHeld ?_
  rotate_left
  · (intro w hSw; go_simp; (try with_reducible rfl))
  simp only [Act.put, List.getElem_toArray, List.getElem_cons_zero, List.getElem_cons_succ, List.setIfInBounds_toArray, List.set_cons_zero, List.set_cons_succ]
  refine wpAnyH_take (i := 1) (v := ?_) rfl (by kernel_rfl) (by kernel_rfl) (by kernel_rfl) (fun _ _ _ h => h) (Or.inl ⟨by rfl, ?_⟩) hHeld ?_
  rotate_left
  · (intro w hSw; go_simp; (try with_reducible rfl))
  simp only [Act.put, List.getElem_toArray, List.getElem_cons_zero, List.getElem_cons_succ, List.setIfInBounds_toArray, List.set_cons_zero, List.set_cons_succ]
  refine wpAnyH_take (i := 2) (v := ?_) rfl (by kernel_rfl) (by kernel_rfl) (by kernel_rfl) (fun _ _ _ h => h) (Or.inl ⟨by rfl, ?_⟩) hHeld ?_
  rotate_left
  · (intro w hSw; go_simp; (try with_reducible rfl))
  simp only [Act.put, List.getElem_toArray, List.getElem_cons_zero, List.getElem_cons_succ, List.setIfInBounds_toArray, List.set_cons_zero, List.set_cons_succ]
  refine wpAnyH_take (i := 3) (v := ?_) rfl (by kernel_rfl) (by kernel_rfl) (by kernel_rfl) (fun _ _ _ h => h) (Or.inl ⟨by rfl, ?_⟩) hHeld ?_
  rotate_left
  · (intro w hSw; go_simp; (try with_reducible rfl))
  simp only [Act.put, List.getElem_toArray, List.getElem_cons_zero, List.getElem_cons_succ, List.setIfInBounds_toArray, List.set_cons_zero, List.set_cons_succ]
  refine wpAnyH_take (i := 5) (v := ?_) rfl (by kernel_rfl) (by kernel_rfl) (by kernel_rfl) (fun _ _ _ h => h) (Or.inl ⟨by rfl, ?_⟩) hHeld ?_
  rotate_left
  · (intro w hSw; go_simp; (try with_reducible rfl))
  simp only [Act.put, List.getElem_toArray, List.getElem_cons_zero, List.getElem_cons_succ, List.setIfInBounds_toArray, List.set_cons_zero, List.set_cons_succ]
  refine wpAnyH_take (i := 6) (v := ?_) rfl (by kernel_rfl) (by kernel_rfl) (by kernel_rfl) (fun _ _ _ h => h) (Or.inl ⟨by rfl, ?_⟩) hHeld ?_
  rotate_left
  · (intro w hSw; go_simp; (try with_reducible rfl))
  simp only [Act.put, List.getElem_toArray, List.getElem_cons_zero, List.getElem_cons_succ, List.setIfInBounds_toArray, List.set_cons_zero, List.set_cons_succ]
  refine wpAnyH_take (i := 7) (v := ?_) rfl (by kernel_rfl) (by kernel_rfl) (by kernel_rfl) (fun _ _ _ h => h) (Or.inl ⟨by rfl, ?_⟩) hHeld ?_
  rotate_left
  · (intro w hSw; go_simp; (try with_reducible rfl))
  simp only [Act.put, List.getElem_toArray, List.getElem_cons_zero, List.getElem_cons_succ, List.setIfInBounds_toArray, List.set_cons_zero, List.set_cons_succ]
  refine wpAnyH_take (i := 8) (v := ?_) rfl (by kernel_rfl) (by kernel_rfl) (by kernel_rfl) (fun _ _ _ h => h) (Or.inl ⟨by rfl, ?_⟩) hHeld ?_
  rotate_left
  · (intro w hSw; go_simp; (try with_reducible rfl))
  simp only [Act.put, List.getElem_toArray, List.getElem_cons_zero, List.getElem_cons_succ, List.setIfInBounds_toArray, List.set_cons_zero, List.set_cons_succ]
  refine wpAnyH_take (i := 9) (v := ?_) rfl (by kernel_rfl) (by kernel_rfl) (by kernel_rfl) (fun _ _ _ h => h) (Or.inl ⟨by rfl, ?_⟩) hHeld ?_
  rotate_left
  · (intro w hSw; go_simp; (try with_reducible rfl))
  simp only [Act.put, List.getElem_toArray, List.getElem_cons_zero, List.getElem_cons_succ, List.setIfInBounds_toArray, List.set_cons_zero, List.set_cons_succ]
  refine wpAnyH_take (i := 10) (v := ?_) rfl (by kernel_rfl) (by kernel_rfl) (by kernel_rfl) (fun _ _ _ h => h) (Or.inl ⟨by rfl, ?_⟩) hHeld ?_
  rotate_left
  · (intro w hSw; go_simp; (try with_reducible rfl))
  simp only [Act.put, List.getElem_toArray, List.getElem_cons_zero, List.getElem_cons_succ, List.setIfInBounds_toArray, List.set_cons_zero, List.set_cons_succ]
  refine wpAnyH_take (i := 11) (v := ?_) rfl (by kernel_rfl) (by kernel_rfl) (by kernel_rfl) (fun _ _ _ h => h) (Or.inl ⟨by rfl, ?_⟩) hHeld ?_
  rotate_left
  · (intro w hSw; go_simp; (try with_reducible rfl))
  simp only [Act.put, List.getElem_toArray, List.getElem_cons_zero, List.getElem_cons_succ, List.setIfInBounds_toArray, List.set_cons_zero, List.set_cons_succ]
  refine wpAnyH_take (i := 12) (v := ?_) rfl (by kernel_rfl) (by kernel_rfl) (by kernel_rfl) (fun _ _ _ h => h) (Or.inl ⟨by rfl, ?_⟩) hHeld ?_
  rotate_left
  · (intro w hSw; go_simp; (try with_reducible rfl))
  simp only [Act.put, List.getElem_toArray, List.getElem_cons_zero, List.getElem_cons_succ, List.setIfInBounds_toArray, List.set_cons_zero, List.set_cons_succ]
  refine wpAnyH_take (i := 13) (v := ?_) rfl (by kernel_rfl) (by kernel_rfl) (by kernel_rfl) (fun _ _ _ h => h) (Or.inl ⟨by rfl, ?_⟩) hHeld ?_
  rotate_left
  · (intro w hSw; go_simp; (try with_reducible rfl))
  simp only [Act.put, List.getElem_toArray, List.getElem_cons_zero, List.getElem_cons_succ, List.setIfInBounds_toArray, List.set_cons_zero, List.set_cons_succ]
  refine wpAnyH_take (i := 14) (v := ?_) rfl (by kernel_rfl) (by kernel_rfl) (by kernel_rfl) (fun _ _ _ h => h) (Or.inl ⟨by rfl, ?_⟩) hHeld ?_
  rotate_left
  · (intro w hSw; go_simp; (try with_reducible rfl))
  simp only [Act.put, List.getElem_toArray, List.getElem_cons_zero, List.getElem_cons_succ, List.setIfInBounds_toArray, List.set_cons_zero, List.set_cons_succ]
  have HNE := Lib.hid (show ne = j.ev.length from hx1d.ne_)
  have hnm : nm = j.ms.length := hx1d.nm_
  have HM2 := Lib.hid (show j.ms.length ≤ 1000000 from by have := HM.out; have := HL.out; omega)
  replace HM := Lib.hid (show nm ≤ 2000000 from by have := HM2.out; omega)
  obtain ⟨mk, hmk⟩ : ∃ mk : Int × Nat, mk = (k1, ne) := ⟨_, rfl⟩
  have hvk : (Value.agg #[.int .i64 k1, .int .i64 (ne : Int)]) = .agg (ckC mk) := by rw [hmk]; rfl
  have HVK := Lib.hid hvk
  have HMK := Lib.hid hmk
  have hbk : Below w2.heap.size w2 (w2.alloc (.cells (ckC mk) 71)) := (Below.refl _ _).alloc (Nat.le_refl _) _
  have hck : (w2.alloc (.cells (ckC mk) 71)).heap[w2.heap.size]? = some (.cells (ckC mk) 71 (0, 0)) := heap_alloc_new _ _
  have c1 := hx1d.c1
  clear hnm hmk hvk
  refine wpAnyH_ready (rs := [4, 15]) (by kernel_rfl) (by simp) ?_
  refine AllReadyH.cons rfl (fun K hK => ?_) (AllReadyH.cons rfl (fun K hK => ?_) AllReadyH.nil)
  all_goals (try simp only [List.getElem_toArray, List.getElem_cons_zero, List.getElem_cons_succ])
  · go_simp
    refine hK.out _ _ hHeld (fun _ => ?_)
    clear hK K
    try simp only [Act.put, List.setIfInBounds_toArray, List.set_cons_zero, List.set_cons_succ]
    refine wpAnyH_ready (rs := [15]) (by kernel_rfl) (by simp) ?_
    refine AllReadyH.cons rfl (fun K hK => ?_) AllReadyH.nil
    try simp only [List.getElem_toArray, List.getElem_cons_zero, List.getElem_cons_succ]
    refine wp_bsCk (.tmp 26) rfl mk HVK.out ?_
    obtain ⟨w3, hw3⟩ : ∃ w3, w3 = w2.alloc (.cells (ckC mk) 71) := ⟨_, rfl⟩
    obtain ⟨g, hg⟩ : ∃ g, g = w2.heap.size := ⟨_, rfl⟩
    rw [← hw3] at hbk hck
    rw [← hg] at hck
    rw [← hw3, ← hg]
    have hx3 := hx1d.keep hbk
    have hf3 := hfd.more hbk
    have hS3 : SJ p Ae ne ce k1 w3 := sj_of hx3.box
    clear hw3 hg hHeld hx1d hfd hbk c1
    refine hK.out _ _ hS3 (fun _ => ?_)
    clear hK K
    try simp only [Act.put, List.setIfInBounds_toArray, List.set_cons_zero, List.set_cons_succ]
    have hHeld := hS3
    clear hS3
    refine wpAnyH_ready (rs := [16]) (by kernel_rfl) (by simp) ?_
    refine AllReadyH.cons rfl (fun K hK => ?_) AllReadyH.nil
    try simp only [List.getElem_toArray, List.getElem_cons_zero, List.getElem_cons_succ]
    refine wp_appX (.tmp 16) (.tmp 27) 62 71 2 Am nm cm 1 _ _ (appCk _ (hx3).ms hck HM.out) rfl rfl rfl ?_
    intro A4 c4 w4 ho4 hg4 hb4
    have hp4 : w4.heap[p]? = w3.heap[p]? := hg4.block p (hx3).lt fun e => (hx3).pm e.symm rfl
    have he4 : ∀ q, (Value.slice Ae ne ce).ownBlock = some q → w4.heap[q]? = w3.heap[q]? := fun q hq => hg4.block q ((hx3).ev.lt hq) fun e => (hx3).em hq e.symm
    have hf4 : Foot F w w4 := hf3.grown hg4 fun q hq => .inl ((HF.out q).2 (.inr (.inr (by rw [← own_ob Am nm cm]; exact hq))))
    have hbox4 : JB3 w4 p Ae ne ce Am nm cm k1 := hp4.trans (hx3).box
    have hS4 := sj_of hbox4
    refine hK.out _ _ hS4 (fun _ => ?_)
    clear hK K
    try simp only [Act.put, List.setIfInBounds_toArray, List.set_cons_zero, List.set_cons_succ]
    have hx5 := (hx3).setMs hp4 he4 ho4 (by rw [List.length_append]; have := HM2.out; simp only [List.length_cons, List.length_nil]; omega)
    have hf5 := hf4.set_ ((HF.out p).2 (.inl rfl)) 1 (.slice A4 (nm + 1) c4)
    have hF5 : ∀ q, JF p Ae A4 q → F q ∨ w.heap.size ≤ q := fun q hq => by
      rcases hq with rfl | hq | hq
      · exact .inl ((HF.out q).2 (.inl rfl))
      · exact .inl ((HF.out q).2 (.inr (.inl hq)))
      · rw [← own_ob A4 (nm + 1) c4] at hq
        rcases hb4 q hq with hq | hq
        · exact .inl ((HF.out q).2 (.inr (.inr (by rw [← own_ob Am nm cm]; exact hq))))
        · exact .inr (Nat.le_trans hf3.size hq)
    have HP5 := Lib.hid (show JP jnT w p F (markJ j) (w4.setCell ⟨p, 1, none⟩ (.slice A4 (nm + 1) c4)) from by
      have e : markJ j = ⟨j.ev, j.ms ++ [mk], k1⟩ := by unfold markJ; rw [HMK.out, ← HK.out.1, ← HK.out.2, HNE.out]
      rw [e]
      exact hx5.fin hF5 hf5)
    have cl5 := hx5.c2
    have hHeld := hS4
    have q4 : w4.cell? ⟨p, 1, none⟩ = some (.slice Am nm cm) := by rw [cell_of_row w4 p 1 _ _ _ hbox4]; rfl
    have q5 : w4.frozen? ⟨p, 1, none⟩ = false := frozen_of_row w4 p 1 _ _ hbox4
    have hS5 : SJ p Ae ne ce k1 (w4.setCell ⟨p, 1, none⟩ (.slice A4 (nm + 1) c4)) := sj_of hx5.box
    simp only at cl5
    clear hx5 hF5 hf5 ho4 hg4 hb4 hp4 he4 hf4 hx3 hf3 hck hb hbox4 k0 k2 hS4 ek
    refine wpAnyH_take (i := 17) (v := ?_) rfl (by kernel_rfl) (by kernel_rfl) (by kernel_rfl) (fun _ _ _ h => h) (Or.inl ⟨by rfl, ?_⟩) hHeld ?_
    rotate_left
    · (intro w hSw; go_simp; (try with_reducible rfl))
    simp only [Act.put, List.getElem_toArray, List.getElem_cons_zero, List.getElem_cons_succ, List.setIfInBounds_toArray, List.set_cons_zero, List.set_cons_succ]
    refine wpAnyH_take (i := 18) (v := ?_) rfl (by kernel_rfl) (by kernel_rfl) (by kernel_rfl) (fun _ _ _ h => h) (Or.inl ⟨by rfl, ?_⟩) hHeld ?_
    rotate_left
    · (intro w hSw; go_simp; (try with_reducible rfl))
    simp only [Act.put, List.getElem_toArray, List.getElem_cons_zero, List.getElem_cons_succ, List.setIfInBounds_toArray, List.set_cons_zero, List.set_cons_succ]
    refine wpAnyH_ready (rs := [19]) (by kernel_rfl) (by simp) ?_
    refine AllReadyH.cons rfl (fun K hK => ?_) AllReadyH.nil
    try simp only [List.getElem_toArray, List.getElem_cons_zero, List.getElem_cons_succ]
    go_simp
    refine hK.out _ _ hS5 (fun _ => ?_)
    clear hK K
    try simp only [Act.put, List.setIfInBounds_toArray, List.set_cons_zero, List.set_cons_succ]
    refine wpAnyH_done (by kernel_rfl) ?_ _
    refine hK0 _ _ ?_
    clear hK0 K0 hHeld hS5 q4 q5
    go_wp2_with fail
    go_ret
    exact ⟨rfl, HP5.out⟩
  · skip
    refine wp_bsCk (.tmp 26) rfl mk HVK.out ?_
    obtain ⟨w3, hw3⟩ : ∃ w3, w3 = w2.alloc (.cells (ckC mk) 71) := ⟨_, rfl⟩
    obtain ⟨g, hg⟩ : ∃ g, g = w2.heap.size := ⟨_, rfl⟩
    rw [← hw3] at hbk hck
    rw [← hg] at hck
    rw [← hw3, ← hg]
    have hx3 := hx1d.keep hbk
    have hf3 := hfd.more hbk
    have hS3 : SJ p Ae ne ce k1 w3 := sj_of hx3.box
    clear hw3 hg hHeld hx1d hfd hbk c1
    refine hK.out _ _ hS3 (fun _ => ?_)
    clear hK K
    try simp only [Act.put, List.setIfInBounds_toArray, List.set_cons_zero, List.set_cons_succ]
    have hHeld := hS3
    clear hS3
    have c1 := hx3.c1
    refine wpAnyH_ready (rs := [4]) (by kernel_rfl) (by simp) ?_
    refine AllReadyH.cons rfl (fun K hK => ?_) AllReadyH.nil
    try simp only [List.getElem_toArray, List.getElem_cons_zero, List.getElem_cons_succ]
    go_simp
    refine hK.out _ _ hHeld (fun _ => ?_)
    clear hK K
    try simp only [Act.put, List.setIfInBounds_toArray, List.set_cons_zero, List.set_cons_succ]
    refine wpAnyH_ready (rs := [16]) (by kernel_rfl) (by simp) ?_
    refine AllReadyH.cons rfl (fun K hK => ?_) AllReadyH.nil
    try simp only [List.getElem_toArray, List.getElem_cons_zero, List.getElem_cons_succ]
    refine wp_appX (.tmp 16) (.tmp 27) 62 71 2 Am nm cm 1 _ _ (appCk _ (hx3).ms hck HM.out) rfl rfl rfl ?_
    intro A4 c4 w4 ho4 hg4 hb4
    have hp4 : w4.heap[p]? = w3.heap[p]? := hg4.block p (hx3).lt fun e => (hx3).pm e.symm rfl
    have he4 : ∀ q, (Value.slice Ae ne ce).ownBlock = some q → w4.heap[q]? = w3.heap[q]? := fun q hq => hg4.block q ((hx3).ev.lt hq) fun e => (hx3).em hq e.symm
    have hf4 : Foot F w w4 := hf3.grown hg4 fun q hq => .inl ((HF.out q).2 (.inr (.inr (by rw [← own_ob Am nm cm]; exact hq))))
    have hbox4 : JB3 w4 p Ae ne ce Am nm cm k1 := hp4.trans (hx3).box
    have hS4 := sj_of hbox4
    refine hK.out _ _ hS4 (fun _ => ?_)
    clear hK K
    try simp only [Act.put, List.setIfInBounds_toArray, List.set_cons_zero, List.set_cons_succ]
    have hx5 := (hx3).setMs hp4 he4 ho4 (by rw [List.length_append]; have := HM2.out; simp only [List.length_cons, List.length_nil]; omega)
    have hf5 := hf4.set_ ((HF.out p).2 (.inl rfl)) 1 (.slice A4 (nm + 1) c4)
    have hF5 : ∀ q, JF p Ae A4 q → F q ∨ w.heap.size ≤ q := fun q hq => by
      rcases hq with rfl | hq | hq
      · exact .inl ((HF.out q).2 (.inl rfl))
      · exact .inl ((HF.out q).2 (.inr (.inl hq)))
      · rw [← own_ob A4 (nm + 1) c4] at hq
        rcases hb4 q hq with hq | hq
        · exact .inl ((HF.out q).2 (.inr (.inr (by rw [← own_ob Am nm cm]; exact hq))))
        · exact .inr (Nat.le_trans hf3.size hq)
    have HP5 := Lib.hid (show JP jnT w p F (markJ j) (w4.setCell ⟨p, 1, none⟩ (.slice A4 (nm + 1) c4)) from by
      have e : markJ j = ⟨j.ev, j.ms ++ [mk], k1⟩ := by unfold markJ; rw [HMK.out, ← HK.out.1, ← HK.out.2, HNE.out]
      rw [e]
      exact hx5.fin hF5 hf5)
    have cl5 := hx5.c2
    have hHeld := hS4
    have q4 : w4.cell? ⟨p, 1, none⟩ = some (.slice Am nm cm) := by rw [cell_of_row w4 p 1 _ _ _ hbox4]; rfl
    have q5 : w4.frozen? ⟨p, 1, none⟩ = false := frozen_of_row w4 p 1 _ _ hbox4
    have hS5 : SJ p Ae ne ce k1 (w4.setCell ⟨p, 1, none⟩ (.slice A4 (nm + 1) c4)) := sj_of hx5.box
    simp only at cl5
    clear hx5 hF5 hf5 ho4 hg4 hb4 hp4 he4 hf4 hx3 hf3 hck hb hbox4 k0 k2 hS4 ek
    refine wpAnyH_take (i := 17) (v := ?_) rfl (by kernel_rfl) (by kernel_rfl) (by kernel_rfl) (fun _ _ _ h => h) (Or.inl ⟨by rfl, ?_⟩) hHeld ?_
    rotate_left
    · (intro w hSw; go_simp; (try with_reducible rfl))
    simp only [Act.put, List.getElem_toArray, List.getElem_cons_zero, List.getElem_cons_succ, List.setIfInBounds_toArray, List.set_cons_zero, List.set_cons_succ]
    refine wpAnyH_take (i := 18) (v := ?_) rfl (by kernel_rfl) (by kernel_rfl) (by kernel_rfl) (fun _ _ _ h => h) (Or.inl ⟨by rfl, ?_⟩) hHeld ?_
    rotate_left
    · (intro w hSw; go_simp; (try with_reducible rfl))
    simp only [Act.put, List.getElem_toArray, List.getElem_cons_zero, List.getElem_cons_succ, List.setIfInBounds_toArray, List.set_cons_zero, List.set_cons_succ]
    refine wpAnyH_ready (rs := [19]) (by kernel_rfl) (by simp) ?_
    refine AllReadyH.cons rfl (fun K hK => ?_) AllReadyH.nil
    try simp only [List.getElem_toArray, List.getElem_cons_zero, List.getElem_cons_succ]
    go_simp
    refine hK.out _ _ hS5 (fun _ => ?_)
    clear hK K
    try simp only [Act.put, List.setIfInBounds_toArray, List.set_cons_zero, List.set_cons_succ]
    refine wpAnyH_done (by kernel_rfl) ?_ _
    refine hK0 _ _ ?_
    clear hK0 K0 hHeld hS5 q4 q5
    go_wp2_with fail
    go_ret
    exact ⟨rfl, HP5.out⟩
end Go.Proofs.Ytncmfkmgaghklaa
namespace Go.Proofs.Ytncmfkmgaghklaa
open Go.RowKit Ex
set_option maxRecDepth 100000
def cmpI (a b : Int) : Int := if a < b then -1 else if b < a then 1 else 0
theorem nan_code (a : Int) (w : World) : Calls Try.prog 62 #[.int .i64 a] w fun en w' => en = .returned (.bool false) ∧ w = w' := by
  go_enter Try.func62, Try.ntmps62
  go_wp2_with fail
  go_ret
  exact ⟨rfl, rfl⟩
theorem cmp_code (a b : Int) (w : World) : Calls Try.prog 54 #[.int .i64 a, .int .i64 b] w fun en w' => en = .returned (.int .i64 (cmpI a b)) ∧ w = w' := by
  unfold cmpI
  by_cases h1 : a < b
  · have d1 : decide (a < b) = true := by simp [h1]
    rw [if_pos h1]
    clear h1
    go_enter Try.func54, Try.ntmps54
    go_wp2_with fail
    refine (nan_code a _).mono ?_
    rintro e w2 ⟨rfl, rfl⟩
    go_wp2_with fail
    refine (nan_code b _).mono ?_
    rintro e w3 ⟨rfl, rfl⟩
    go_wp2_with fail
    go_ret
    exact ⟨rfl, rfl⟩
  · have d1 : decide (a < b) = false := by simp [h1]
    rw [if_neg h1]
    by_cases h2 : b < a
    · have d2 : decide (b < a) = true := by simp [h2]
      rw [if_pos h2]
      clear h1 h2
      go_enter Try.func54, Try.ntmps54
      go_wp2_with fail
      refine (nan_code a _).mono ?_
      rintro e w2 ⟨rfl, rfl⟩
      go_wp2_with fail
      refine (nan_code b _).mono ?_
      rintro e w3 ⟨rfl, rfl⟩
      go_wp2_with fail
      go_ret
      exact ⟨rfl, rfl⟩
    · have d2 : decide (b < a) = false := by simp [h2]
      rw [if_neg h2]
      clear h1 h2
      go_enter Try.func54, Try.ntmps54
      go_wp2_with fail
      refine (nan_code a _).mono ?_
      rintro e w2 ⟨rfl, rfl⟩
      go_wp2_with fail
      refine (nan_code b _).mono ?_
      rintro e w3 ⟨rfl, rfl⟩
      go_wp2_with fail
      go_ret
      exact ⟨rfl, rfl⟩
theorem find1_code (m : Int × Nat) (c : Int) (w : World) : Calls Try.prog 53 #[.agg (ckC m), .int .i64 c] w fun en w' => en = .returned (.int .i64 (cmpI m.1 c)) ∧ Below w.heap.size w w' := by
  obtain ⟨a, b⟩ := m
  have hb : Below w.heap.size w (w.alloc (.cells #[.int .i64 a, .int .i64 (b : Int)] 71)) := (Below.refl _ _).alloc (Nat.le_refl _) _
  unfold ckC
  go_enter Try.func53, Try.ntmps53
  go_wp2_with fail
  refine (cmp_code a c _).mono ?_
  rintro en w2 ⟨rfl, rfl⟩
  go_wp2_with fail
  go_ret
  exact ⟨rfl, hb⟩
/-- Where a checkpoint stands, if it does. -/
def FindP (j : JT) (c : Int) (i : Nat) (b : Bool) : Prop := (b = true ∧ ∃ a, j.ms[i]? = some (c, a)) ∨ (b = false ∧ ∀ m ∈ j.ms, m.1 ≠ c)
/-- A search under way. -/
structure BS (j : JT) (c : Int) (lo hi : Nat) : Prop where
  l : ∀ (t : Nat) (m : Int × Nat), t < lo → j.ms[t]? = some m → m.1 < c
  h : ∀ (t : Nat) (m : Int × Nat), hi ≤ t → j.ms[t]? = some m → c ≤ m.1
theorem ms_lt {j : JT} (ho : JOk j) {a b : Nat} {x y : Int × Nat} (hab : a < b) (hx : j.ms[a]? = some x) (hy : j.ms[b]? = some y) : x.1 < y.1 := by
  have hr := ho.r
  unfold numsJ at hr
  obtain ⟨ha, rfl⟩ := List.getElem?_eq_some_iff.1 hx
  obtain ⟨hb, rfl⟩ := List.getElem?_eq_some_iff.1 hy
  have := List.pairwise_iff_getElem.1 hr a b (by simpa using ha) (by simpa using hb) hab
  simpa using this
theorem BS.up {j : JT} {c : Int} {lo hi k : Nat} {m : Int × Nat} (h : BS j c lo hi) (ho : JOk j) (hm : j.ms[k]? = some m) (hc : m.1 < c) : BS j c (k + 1) hi :=
  ⟨fun t x ht hx => by
    by_cases e : t = k
    · subst e; rw [hm] at hx; injection hx with hx; rw [← hx]; exact hc
    · have := ms_lt ho (show t < k by omega) hx hm; omega, h.h⟩
theorem BS.down {j : JT} {c : Int} {lo hi k : Nat} {m : Int × Nat} (h : BS j c lo hi) (ho : JOk j) (hm : j.ms[k]? = some m) (hc : ¬ m.1 < c) : BS j c lo k :=
  ⟨h.l, fun t x ht hx => by
    by_cases e : t = k
    · subst e; rw [hm] at hx; injection hx with hx; rw [← hx]; omega
    · have := ms_lt ho (show k < t by omega) hm hx; omega⟩
theorem BS.fin {j : JT} {c : Int} {i : Nat} (h : BS j c i i) (ho : JOk j) (hno : ∀ m, j.ms[i]? = some m → m.1 ≠ c) : FindP j c i false := by
  refine .inr ⟨rfl, fun m hm => ?_⟩
  obtain ⟨t, ht⟩ := List.mem_iff_getElem?.1 hm
  rcases Nat.lt_trichotomy t i with hlt | rfl | hgt
  · have := h.l t m hlt ht; omega
  · exact hno m ht
  · cases hi : j.ms[i]? with
    | none =>
      have h1 := (List.getElem?_eq_some_iff.1 ht).1
      have h2 := List.getElem?_eq_none_iff.1 hi
      omega
    | some x =>
      have h1 := h.h i x (Nat.le_refl _) hi
      have h2 := ms_lt ho hgt hi ht
      omega
theorem cmp_neg (a b : Int) : decide (cmpI a b < 0) = decide (a < b) := by
  unfold cmpI
  split
  · rename_i h; simp [h]
  · rename_i h
    split <;> simp [h]
theorem cmp_zero (a b : Int) : (cmpI a b == 0) = (a == b) := by
  unfold cmpI
  rw [Bool.eq_iff_iff]
  split
  · rename_i h; simp; omega
  · rename_i h
    split
    · simp; omega
    · simp; omega
set_option linter.unusedSimpArgs false in
set_option maxHeartbeats 0 in
theorem bs_code {p ne ce nm cm : Nat} {Ae Am : Option Addr} {j : JT} {w : World} (h : JX w p Ae ne ce Am nm cm j) (ho : JOk j) (c : Int) :
    Calls Try.prog 52 #[.slice Am nm cm, .int .i64 c, .func (.func 53) #[] #[]] w fun en w' =>
      ∃ (i : Nat) (b : Bool), en = .returned (.tuple #[.int .i64 (i : Int), .bool b]) ∧ i ≤ nm ∧ FindP j c i b ∧ Below w.heap.size w w' := by
  have HX := Lib.hid h
  have HO := Lib.hid ho
  have HL := Lib.hid h.nm_
  have hn : nm ≤ 2000000 := by rw [h.nm_]; exact h.mb
  have HB := Lib.hid (Below.refl w.heap.size w)
  have HS : Hid (BS j c 0 nm) := Lib.hid ⟨fun t m ht _ => absurd ht (by omega), fun t m ht hm => by have := (List.getElem?_eq_some_iff.1 hm).1; have := HL.out; omega⟩
  clear h ho
  go_enter Try.func52, Try.ntmps52
  go_upto_region 3 with fail
  go_loopw [9, 10] (fun a b wr => ∃ lo hi : Nat, a = .int .i64 ((lo : Nat) : Int) ∧ b = .int .i64 ((hi : Nat) : Int) ∧ lo ≤ hi ∧ hi ≤ nm ∧ Hid (BS j c lo hi) ∧ Hid (Below w.heap.size w wr)) (fun a b _ => (intOf b).toNat - (intOf a).toNat)
  case atStart => exact ⟨0, nm, rfl, rfl, by omega, by omega, HS, HB⟩
  case round =>
    clear HS HB
    obtain ⟨lo, hi, rfl, rfl, hlh, hhn, HS, HB⟩ := hrel
    by_cases hlt : lo < hi
    · obtain ⟨k, hk⟩ : ∃ k, k = (lo + hi) / 2 := ⟨_, rfl⟩
      have ek : ((lo : Int) + (hi : Int)) / 2 = (k : Int) := by omega
      have hk1 : lo ≤ k := by omega
      have hk2 : k < hi := by omega
      clear hk
      have hk3 : k < j.ms.length := by have := HL.out; omega
      obtain ⟨m, hm⟩ : ∃ m, j.ms[k]? = some m := ⟨_, List.getElem?_eq_getElem hk3⟩
      obtain ⟨g, hA, hg, ca, cb, _⟩ := (HX.out.keep HB.out).mk_at hm
      subst hA
      have HM := Lib.hid hm
      have hd := cmp_neg m.1 c
      clear hm hk3
      have d0 : decide ((lo : Int) < (hi : Int)) = true := by simp; omega
      have p0 : (0 : Int) ≤ (k : Int) := by omega
      have p1 : (k : Int) < (nm : Int) := by omega
      go_wp2_with fail
      refine (find1_code m c wr).mono ?_
      rintro en w2 ⟨rfl, hb2⟩
      have HB2 := Lib.hid (keepB hb2 HB.out)
      clear hb2 ca cb
      by_cases hc : m.1 < c
      · have hd1 : decide (cmpI m.1 c < 0) = true := by rw [hd]; simp [hc]
        have HS2 := Lib.hid (HS.out.up HO.out HM.out hc)
        clear hd hc
        go_wp2_with fail
        go_roundw
        case rel => exact ⟨k + 1, hi, by go_num, rfl, by omega, by omega, HS2, HB2⟩
        case measure => simp [intOf]; omega
      · have hd1 : decide (cmpI m.1 c < 0) = false := by rw [hd]; simp [hc]
        have HS2 := Lib.hid (HS.out.down HO.out HM.out hc)
        clear hd hc
        go_wp2_with fail
        go_roundw
        case rel => exact ⟨lo, k, rfl, rfl, by omega, by omega, HS2, HB2⟩
        case measure => simp [intOf]; omega
    · obtain rfl : lo = hi := by omega
      have d0 : decide ((lo : Int) < (lo : Int)) = false := by simp
      by_cases hl : lo < nm
      · have hk3 : lo < j.ms.length := by have := HL.out; omega
        obtain ⟨m, hm⟩ : ∃ m, j.ms[lo]? = some m := ⟨_, List.getElem?_eq_getElem hk3⟩
        obtain ⟨g, hA, hg, ca, cb, _⟩ := (HX.out.keep HB.out).mk_at hm
        subst hA
        have HM := Lib.hid hm
        have hz := cmp_zero m.1 c
        have hF : FindP j c lo (m.1 == c) := by
          by_cases e : m.1 = c
          · exact .inl ⟨by simp [e], m.2, by rw [hm, ← e]⟩
          · have he : (m.1 == c) = false := by simp [e]
            rw [he]
            exact HS.out.fin HO.out fun x hx => by rw [hm] at hx; injection hx with hx; rw [← hx]; exact e
        obtain ⟨q, hq⟩ : ∃ q, q = (m.1 == c) := ⟨_, rfl⟩
        rw [← hq] at hz hF
        have HF := Lib.hid hF
        have d1 : decide ((lo : Int) < (nm : Int)) = true := by simp; omega
        have p0 : (0 : Int) ≤ (lo : Int) := by omega
        have p1 : (lo : Int) < (nm : Int) := by omega
        clear hm hk3 hF hq
        go_wp2_with fail
        refine (find1_code m c wr).mono ?_
        rintro en w2 ⟨rfl, hb2⟩
        have HB2 := Lib.hid (keepB hb2 HB.out)
        clear hb2 ca cb
        go_wp2_with fail
        go_ret2
        exact ⟨lo, q, rfl, by omega, HF.out, HB2.out⟩
      · have d1 : decide ((lo : Int) < (nm : Int)) = false := by simp; omega
        have HF := Lib.hid (HS.out.fin HO.out (fun m hm => by have := (List.getElem?_eq_some_iff.1 hm).1; have := HL.out; omega))
        go_wp2_with fail
        go_ret2
        exact ⟨lo, false, rfl, by omega, HF.out, HB.out⟩
/-- What find answers. -/
def FindQ (w : World) (j : JT) (c : Int) (en : Ending) (w' : World) : Prop := ∃ (i : Nat) (b : Bool), en = .returned (.tuple #[.int .i64 (i : Int), .bool b]) ∧ FindP j c i b ∧ Below w.heap.size w w'
theorem find_code {p ne ce nm cm : Nat} {Ae Am : Option Addr} {j : JT} {w : World} (h : JX w p Ae ne ce Am nm cm j) (ho : JOk j) (c : Int) :
    Calls Try.prog 43 #[ptrV p, .int .i64 c] w (FindQ w j c) := by
  have c1 := h.c1
  have hb := bs_code h ho c
  clear h ho
  unfold ptrV
  go_enter Try.func43, Try.ntmps43
  go_wp2_with fail
  refine hb.mono ?_
  rintro en w2 ⟨i, b, rfl, _, hF, hb2⟩
  have HF := Lib.hid hF
  clear hF hb
  go_wp2_with fail
  go_ret2
  exact ⟨i, b, rfl, HF.out, hb2⟩
theorem find_nil (c : Int) (w : World) : Calls Try.prog 43 #[.pointer none, .int .i64 c] w fun en w' => en = .returned (.tuple #[.int .i64 0, .bool false]) ∧ w' = w := by
  go_enter Try.func43, Try.ntmps43
  go_wp2_with fail
  go_ret2
  exact ⟨rfl, rfl⟩
theorem find_some {ms : List (Int × Nat)} {c : Int} {i a : Nat} (hp : (ms.map Prod.fst).Pairwise (· < ·)) (h : ms[i]? = some (c, a)) : findM ms c = some a ∧ cutM ms c = ms.take (i + 1) := by
  induction ms generalizing i with
  | nil => simp at h
  | cons m r ih =>
    simp only [List.map_cons, List.pairwise_cons] at hp
    cases i with
    | zero =>
      simp at h
      subst h
      simp [findM, cutM]
    | succ i =>
      simp at h
      have hne : m.1 ≠ c := by
        have := hp.1 c (List.mem_map.2 ⟨(c, a), List.mem_of_getElem? h, rfl⟩)
        omega
      obtain ⟨h1, h2⟩ := ih hp.2 h
      exact ⟨by simp only [findM, if_neg hne]; exact h1, by simp only [cutM, if_neg hne, h2, List.take_succ_cons]⟩
theorem find_none {ms : List (Int × Nat)} {c : Int} (h : ∀ m ∈ ms, m.1 ≠ c) : findM ms c = none := by
  induction ms with
  | nil => rfl
  | cons m r ih =>
    simp only [findM, if_neg (h m (List.mem_cons_self ..))]
    exact ih fun x hx => h x (List.mem_cons_of_mem _ hx)
theorem FindP.live {j : JT} {c : Int} {i : Nat} {b : Bool} (h : FindP j c i b) (ho : JOk j) : liveJ j c = b := by
  unfold liveJ findJ
  rcases h with ⟨rfl, a, ha⟩ | ⟨rfl, hn⟩
  · rw [(find_some ho.r ha).1]; rfl
  · rw [find_none hn]; rfl
theorem live_code (p : Nat) (j : JT) (F : Nat → Prop) (c : Int) (w : World) (h : JR w p j F) (ho : JOk j) : Calls Try.prog 30 #[ptrV p, .int .i64 c] w fun en w' => en = .returned (.bool (liveJ j c)) ∧ Below w.heap.size w w' := by
  obtain ⟨Ae, ne, ce, Am, nm, cm, hx, _⟩ := h
  have hf := find_code hx ho c
  have HO := Lib.hid ho
  clear hx ho
  go_enter Try.func30, Try.ntmps30
  go_wp2_with fail
  refine hf.mono ?_
  rintro en w2 ⟨i, b, rfl, hF, hb2⟩
  have HL := Lib.hid (hF.live HO.out)
  clear hF hf
  go_wp2_with fail
  go_ret
  exact ⟨by rw [HL.out]; rfl, hb2⟩
theorem live_nil (c : Int) (w : World) : Calls Try.prog 30 #[.pointer none, .int .i64 c] w fun en w' => en = .returned (.bool false) ∧ Below w.heap.size w w' := by
  go_enter Try.func30, Try.ntmps30
  go_wp2_with fail
  refine (find_nil c w).mono ?_
  rintro en w2 ⟨rfl, rfl⟩
  go_wp2_with fail
  go_ret
  exact ⟨rfl, Below.refl _ _⟩
end Go.Proofs.Ytncmfkmgaghklaa
namespace Go.Proofs.Ytncmfkmgaghklaa
open Go.RowKit Ex
set_option maxRecDepth 100000
theorem ownX_rd {w : World} {A : Option Addr} {n c : Nat} {l : List EvT} (h : OwnX 41 6 w A n c (flatV l)) : RdV w.heap.size w A l := by
  have hn := h.len
  have hle := h.le
  rw [flatV_len] at hn
  rcases h.at0 with hA | ⟨g, hA⟩
  · have hl : l = [] := by
      rcases h.o with ⟨_, h0⟩ | ⟨g, cur, h1, _⟩
      · exact List.length_eq_zero_iff.1 (by omega)
      · rw [hA] at h1; cases h1
    rw [hl]; exact RdV.none_
  · intro i o hi
    refine ⟨g, 0, hA, h.lt (by rw [hA]; rfl), fun k u hu => ?_⟩
    rw [Nat.zero_add]
    exact h.cells hA (i * 6 + k) u (flatV_at i o hi k u hu)
/-- What Clone answers. -/
def ClX (e : TypeId) (size : Nat) (w : World) (n : Nat) (xs : List Value) (en : Ending) (w' : World) : Prop :=
  ∃ A' c', en = .returned (.slice A' n c') ∧ OwnX e size w' A' n c' xs ∧ (∀ k, (Value.slice A' 0 0).ownBlock = some k → w.heap.size ≤ k) ∧ Below w.heap.size w w'
theorem below_grown {w w1 w2 : World} {row : Option Nat} (hb : Below w.heap.size w w1) (hg : w1.grownBy w2 row) (hr : ∀ k, row = some k → w.heap.size ≤ k) : Below w.heap.size w w2 := hb.grown hg hb.size hr
theorem cloneV_code (A : Option Addr) (n c : Nat) (l : List EvT) (w : World) (hR : RdV w.heap.size w A l) (hl : n = l.length) (hn : n ≤ 1000000) :
    Calls Try.prog 39 #[.slice A n c] w (ClX 41 6 w n (flatV l)) := by
  cases A with
  | none =>
    obtain rfl := hR.nil_of
    subst hl
    have q := fun W => Go.Lib.run_eql_slice_nil_nil (P := Try.prog) W 0 c (Try.underlying31)
    go_enter Try.func39, Try.ntmps39
    go_wp2_with fail
    go_ret
    exact ⟨none, 0, rfl, OwnX.nil_, fun k hk => (by cases hk), Below.refl _ _⟩
  | some a0 =>
    have hb1 : Below w.heap.size w (w.alloc (.cells #[] 41)) := (Below.refl _ _).alloc (Nat.le_refl _) _
    have q := fun W => Go.Lib.run_eql_slice_some_nil (P := Try.prog) W a0 n c (Try.underlying31)
    have ho : OwnX 41 6 (w.alloc (.cells #[] 41)) (some ⟨w.heap.size, 0, none⟩) 0 0 (flatV []) := OwnX.of (ownV_empty w 0 (Nat.zero_le _)).o
    have hap := fun ty => appEv ty ho c (hR.below hb1) hl (by omega)
    have HAP := Lib.hid hap
    clear hR hl ho hap
    go_enter Try.func39, Try.ntmps39
    go_upto_region 3 with fail
    go_wp2_with (at_builtin; refine wpList_appX rfl (.tmp 5) (.tmp 6) 31 41 6 (some ⟨w.heap.size, 0, none⟩) 0 0 n _ _ (HAP.out _) rfl rfl rfl ?_; intro A3 c3 w2 ho3 hg3 hb3)
    have hb2 := below_grown hb1 hg3 (fun k hk => by injection hk with hk; simp at hk; omega)
    go_ret
    rw [List.nil_append, Nat.zero_add] at ho3
    refine ⟨A3, c3, by simp, ho3, fun k hk => ?_, hb2⟩
    rw [← own_ob A3 (0 + n) c3] at hk
    rcases hb3 k hk with hk | hk
    · injection hk with hk; simp at hk; omega
    · simp at hk; omega
theorem run_appK {w : World} (ty : TypeId) {A A2 : Option Addr} {n c m cm : Nat} {l l2 : List (Int × Nat)} (h : OwnX 71 2 w A n c (flatK l)) (h2 : OwnX 71 2 w A2 m cm (flatK l2)) (c2 : Nat) (hn : n + m ≤ 4000000) :
    AppX Try.prog w 62 ty 71 2 A n c m (.slice A2 m c2) (flatK (l ++ l2)) := by
  obtain ⟨i0, hi, hz0, hz1, hz2⟩ := info_parts info_ck
  have hlen := h2.len
  rcases h2.at0 with hA | ⟨g, hA⟩
  · subst hA
    have hm : m = 0 := by
      rcases h2.o with ⟨_, h0⟩ | ⟨g, cur, h1, _⟩
      · have := h2.le; omega
      · cases h1
    subst hm
    have hl2 : l2 = [] := by
      rw [flatK_len] at hlen
      exact List.length_eq_zero_iff.1 (by omega)
    rw [hl2, List.append_nil]
    exact run_appX_none 62 ty 71 i0 2 Try.underlying62 hi h c2
  · subst hA
    rw [flatK_app]
    exact run_appX 62 ty 71 i0 _ 2 16 Try.underlying62 hi hz0 hz1 hz2 (ckC_size (0, 0)) (by omega) h ⟨g, 0, none⟩ m c2 (flatK l2) hlen
      (fun j u hj => by
        have e1 : (⟨g, 0, none⟩ : Addr).add j = ⟨g, j, none⟩ := by unfold Addr.add; split <;> simp_all
        rw [e1]; exact h2.cells rfl j u hj) (flatK_one l2) (by unfold maxLen; omega) (by omega)
theorem cloneK_code (A : Option Addr) (n c : Nat) (l : List (Int × Nat)) (w : World) (h : OwnX 71 2 w A n c (flatK l)) (hn : n ≤ 2000000) :
    Calls Try.prog 40 #[.slice A n c] w (ClX 71 2 w n (flatK l)) := by
  cases A with
  | none =>
    have h0 : n = 0 := by
      rcases h.o with ⟨_, h0⟩ | ⟨g, cur, h1, _⟩
      · have := h.le; omega
      · cases h1
    subst h0
    have hl : l = [] := by
      have := h.len
      rw [flatK_len] at this
      exact List.length_eq_zero_iff.1 (by omega)
    subst hl
    have q := fun W => Go.Lib.run_eql_slice_nil_nil (P := Try.prog) W 0 c (Try.underlying62)
    clear h
    go_enter Try.func40, Try.ntmps40
    go_wp2_with fail
    go_ret
    exact ⟨none, 0, rfl, OwnX.nil_, fun k hk => (by cases hk), Below.refl _ _⟩
  | some a0 =>
    have hb1 : Below w.heap.size w (w.alloc (.cells #[] 71)) := (Below.refl _ _).alloc (Nat.le_refl _) _
    have q := fun W => Go.Lib.run_eql_slice_some_nil (P := Try.prog) W a0 n c (Try.underlying62)
    have ho : OwnX 71 2 (w.alloc (.cells #[] 71)) (some ⟨w.heap.size, 0, none⟩) 0 0 (flatK []) := ⟨rfl, Nat.le_refl _, Nat.zero_le _, .inr ⟨w.heap.size, #[], rfl, heap_alloc_new _ _, by simp, rfl, .inl rfl⟩⟩
    have h1 := h.stay (w' := w.alloc (.cells #[] 71)) fun k hk => hb1.block k (h.lt hk)
    have hap := fun ty => run_appK ty ho h1 c (by omega)
    have HAP := Lib.hid hap
    clear h h1 ho hap
    go_enter Try.func40, Try.ntmps40
    go_upto_region 3 with fail
    go_wp2_with (at_builtin; refine wpList_appX rfl (.tmp 5) (.tmp 6) 62 71 2 (some ⟨w.heap.size, 0, none⟩) 0 0 n _ _ (HAP.out _) rfl rfl rfl ?_; intro A3 c3 w2 ho3 hg3 hb3)
    have hb2 := below_grown hb1 hg3 (fun k hk => by injection hk with hk; simp at hk; omega)
    go_ret
    rw [List.nil_append, Nat.zero_add] at ho3
    refine ⟨A3, c3, by simp, ho3, fun k hk => ?_, hb2⟩
    rw [← own_ob A3 (0 + n) c3] at hk
    rcases hb3 k hk with hk | hk
    · injection hk with hk; simp at hk; omega
    · simp at hk; omega
end Go.Proofs.Ytncmfkmgaghklaa
namespace Go.Proofs.Ytncmfkmgaghklaa
open Go.RowKit Ex
set_option maxRecDepth 100000
set_option linter.unusedSimpArgs false in
set_option maxHeartbeats 0 in
theorem span_codeJ (p : Nat) (j : JT) (F : Nat → Prop) (c : Int) (w : World) (h : JR w p j F) (ho : JOk j) :
    Calls Try.prog 27 #[ptrV p, .int .i64 c] w fun en w' => ∃ A n cc, en = .returned (.tuple #[.slice A n cc, errV (deadJ j c)]) ∧ n ≤ cc ∧ Evs w'.heap.size w' A n (spanJ j c) ∧ Below w.heap.size w w' := by
  obtain ⟨Ae, ne, ce, Am, nm, cm, hx, _⟩ := h
  have hf := find_code hx ho c
  have HX := Lib.hid hx
  have HO := Lib.hid ho
  clear hx ho
  go_enter Try.func27, Try.ntmps27
  go_wp2_with fail
  refine hf.mono ?_
  rintro en w2 ⟨i, b, rfl, hF, hb2⟩
  clear hf
  rcases hF with ⟨rfl, a, ha⟩ | ⟨rfl, hno⟩
  case inr =>
    have HD := Lib.hid (show deadJ j c = 16 ∧ spanJ j c = [] from by
      have h1 : findJ j c = none := find_none hno
      have hl : liveJ j c = false := by unfold liveJ; rw [h1]; rfl
      exact ⟨by unfold deadJ; rw [hl]; rfl, by unfold spanJ; rw [h1]⟩)
    clear hno
    go_wp2_with fail
    go_ret2
    exact ⟨none, 0, 0, by rw [HD.out.1, errV_err (by decide)]; rfl, Nat.le_refl _, by rw [HD.out.2]; exact Evs.nil, hb2⟩
  case inl =>
    have hf1 : findJ j c = some a := (find_some HO.out.r ha).1
    have hal := find_le HO.out hf1
    have HD := Lib.hid (show deadJ j c = 0 ∧ spanJ j c = j.ev.drop a from by
      have hl : liveJ j c = true := by unfold liveJ; rw [hf1]; rfl
      exact ⟨by unfold deadJ; rw [hl]; rfl, by unfold spanJ; rw [hf1]⟩)
    have hx2 := HX.out.keep hb2
    obtain ⟨g, hA, hg, ca, cb, _⟩ := hx2.mk_at ha
    subst hA
    simp only at cb
    have hi : i < nm := by rw [hx2.nm_]; exact (List.getElem?_eq_some_iff.1 ha).1
    have p0 : (0 : Int) ≤ (i : Int) := by omega
    have p1 : (i : Int) < (nm : Int) := by omega
    have han : a ≤ ne := by rw [hx2.ne_]; exact hal
    have hn1 : ne ≤ 65536 := by rw [hx2.ne_]; exact HO.out.n
    obtain ⟨A', hsl, hR⟩ := cutV_from hx2.rd hx2.ne_ hx2.ev.le han
    have HR := Lib.hid hR
    have HI := Lib.hid (show ∀ e ∈ j.ev.drop a, EvI e from fun e he => HX.out.ei e (List.mem_of_mem_drop he))
    have HLN := Lib.hid (show ne - a = (j.ev.drop a).length from by rw [List.length_drop, ← hx2.ne_])
    have c0 := hx2.c0
    have c1 := hx2.c1
    have hHb := hx2.box
    clear hf1 hal ha hR han
    unfold ptrV
    go_upto_region 4 with fail
    rename_i K0 hK0
    have k0 : ∀ W, Below w2.heap.size w2 W → W.cell? ⟨p, 0, none⟩ = some (.slice Ae ne ce) := fun W h => (h.cell (show p < w2.heap.size from hx2.lt)).trans c0
    have k1 : ∀ W, Below w2.heap.size w2 W → W.cell? ⟨p, 1, none⟩ = some (.slice (some ⟨g, 0, none⟩) nm cm) := fun W h => (h.cell (show p < w2.heap.size from hx2.lt)).trans c1
    have k2 : ∀ W, Below w2.heap.size w2 W → W.cell? ⟨g, i * 2 + 1, none⟩ = some (.int .i64 (a : Int)) := fun W h => (h.cell (show g < w2.heap.size from hg)).trans cb
    refine region_below (by kernel_rfl) (fun hHeld => ?_)
    refine wpAnyH_take (i := 0) (v := ?_) rfl (by kernel_rfl) (by kernel_rfl) (by kernel_rfl) (fun _ _ _ h => h) (Or.inl ⟨by rfl, ?_⟩) hHeld ?_
    rotate_left
    · (intro w hSw; go_simp; (try with_reducible rfl))
    simp only [Act.put, List.getElem_toArray, List.getElem_cons_zero, List.getElem_cons_succ, List.setIfInBounds_toArray, List.set_cons_zero, List.set_cons_succ]
    refine wpAnyH_take (i := 1) (v := ?_) rfl (by kernel_rfl) (by kernel_rfl) (by kernel_rfl) (fun _ _ _ h => h) (Or.inl ⟨by rfl, ?_⟩) hHeld ?_
    rotate_left
    · (intro w hSw; go_simp; (try with_reducible rfl))
    simp only [Act.put, List.getElem_toArray, List.getElem_cons_zero, List.getElem_cons_succ, List.setIfInBounds_toArray, List.set_cons_zero, List.set_cons_succ]
    refine wpAnyH_take (i := 2) (v := ?_) rfl (by kernel_rfl) (by kernel_rfl) (by kernel_rfl) (fun _ _ _ h => h) (Or.inl ⟨by rfl, ?_⟩) hHeld ?_
    rotate_left
    · (intro w hSw; go_simp; (try with_reducible rfl))
    simp only [Act.put, List.getElem_toArray, List.getElem_cons_zero, List.getElem_cons_succ, List.setIfInBounds_toArray, List.set_cons_zero, List.set_cons_succ]
    refine wpAnyH_take (i := 3) (v := ?_) rfl (by kernel_rfl) (by kernel_rfl) (by kernel_rfl) (fun _ _ _ h => h) (Or.inl ⟨by rfl, ?_⟩) hHeld ?_
    rotate_left
    · (intro w hSw; go_simp; (try with_reducible rfl))
    simp only [Act.put, List.getElem_toArray, List.getElem_cons_zero, List.getElem_cons_succ, List.setIfInBounds_toArray, List.set_cons_zero, List.set_cons_succ]
    refine wpAnyH_take (i := 4) (v := ?_) rfl (by kernel_rfl) (by kernel_rfl) (by kernel_rfl) (fun _ _ _ h => h) (Or.inl ⟨by rfl, ?_⟩) hHeld ?_
    rotate_left
    · (intro w hSw; go_simp; (try with_reducible rfl))
    simp only [Act.put, List.getElem_toArray, List.getElem_cons_zero, List.getElem_cons_succ, List.setIfInBounds_toArray, List.set_cons_zero, List.set_cons_succ]
    refine wpAnyH_take (i := 5) (v := ?_) rfl (by kernel_rfl) (by kernel_rfl) (by kernel_rfl) (fun _ _ _ h => h) (Or.inl ⟨by rfl, ?_⟩) hHeld ?_
    rotate_left
    · (intro w hSw; go_simp; (try with_reducible rfl))
    simp only [Act.put, List.getElem_toArray, List.getElem_cons_zero, List.getElem_cons_succ, List.setIfInBounds_toArray, List.set_cons_zero, List.set_cons_succ]
    refine wpAnyH_take (i := 6) (v := ?_) rfl (by kernel_rfl) (by kernel_rfl) (by kernel_rfl) (fun _ _ _ h => h) (Or.inl ⟨by rfl, ?_⟩) hHeld ?_
    rotate_left
    · (intro w hSw; go_simp; (try with_reducible rfl))
    simp only [Act.put, List.getElem_toArray, List.getElem_cons_zero, List.getElem_cons_succ, List.setIfInBounds_toArray, List.set_cons_zero, List.set_cons_succ]
    refine wpAnyH_take (i := 7) (v := ?_) rfl (by kernel_rfl) (by kernel_rfl) (by kernel_rfl) (fun _ _ _ h => h) (Or.inl ⟨by rfl, ?_⟩) hHeld ?_
    rotate_left
    · (intro w hSw; go_simp; (try with_reducible rfl))
    simp only [Act.put, List.getElem_toArray, List.getElem_cons_zero, List.getElem_cons_succ, List.setIfInBounds_toArray, List.set_cons_zero, List.set_cons_succ]
    refine wpAnyH_take (i := 8) (v := ?_) rfl (by kernel_rfl) (by kernel_rfl) (by kernel_rfl) (fun _ _ _ h => h) (Or.inl ⟨by rfl, ?_⟩) hHeld ?_
    rotate_left
    · (intro w hSw; go_simp; (try with_reducible rfl))
    simp only [Act.put, List.getElem_toArray, List.getElem_cons_zero, List.getElem_cons_succ, List.setIfInBounds_toArray, List.set_cons_zero, List.set_cons_succ]
    refine wpAnyH_take (i := 9) (v := ?_) rfl (by kernel_rfl) (by kernel_rfl) (by kernel_rfl) (fun _ _ _ h => h) (Or.inl ⟨by rfl, ?_⟩) hHeld ?_
    rotate_left
    · (intro w hSw; go_simp; (try with_reducible rfl))
    simp only [Act.put, List.getElem_toArray, List.getElem_cons_zero, List.getElem_cons_succ, List.setIfInBounds_toArray, List.set_cons_zero, List.set_cons_succ]
    refine wpAnyH_take (i := 10) (v := ?_) rfl (by kernel_rfl) (by kernel_rfl) (by kernel_rfl) (fun _ _ _ h => h) (Or.inl ⟨by rfl, ?_⟩) hHeld ?_
    rotate_left
    · (intro w hSw; go_simp; (try with_reducible rfl))
    simp only [Act.put, List.getElem_toArray, List.getElem_cons_zero, List.getElem_cons_succ, List.setIfInBounds_toArray, List.set_cons_zero, List.set_cons_succ]
    refine wpAnyH_take (i := 11) (v := ?_) rfl (by kernel_rfl) (by kernel_rfl) (by kernel_rfl) (fun _ _ _ h => h) (Or.inl ⟨by rfl, ?_⟩) hHeld ?_
    rotate_left
    · (intro w hSw; go_simp; (try with_reducible rfl))
    simp only [Act.put, List.getElem_toArray, List.getElem_cons_zero, List.getElem_cons_succ, List.setIfInBounds_toArray, List.set_cons_zero, List.set_cons_succ]
    refine wpAnyH_take (i := 12) (v := ?_) rfl (by kernel_rfl) (by kernel_rfl) (by kernel_rfl) (fun _ _ _ h => h) (Or.inl ⟨by rfl, ?_⟩) hHeld ?_
    rotate_left
    · (intro w hSw; go_simp; (try with_reducible rfl))
    simp only [Act.put, List.getElem_toArray, List.getElem_cons_zero, List.getElem_cons_succ, List.setIfInBounds_toArray, List.set_cons_zero, List.set_cons_succ]
    clear k0 k1 k2 c0 c1 ca cb
    obtain ⟨w3, hw3⟩ : ∃ w3, w3 = w2.drew := ⟨_, rfl⟩
    have hb3 : Below w2.heap.size w2 w3 := by rw [hw3]; exact (Below.refl _ _).drew
    have hs3 : w3.heap.size = w2.heap.size := by rw [hw3]; rfl
    rw [← hw3]
    have hR3 : RdV w3.heap.size w3 A' (j.ev.drop a) := by rw [hs3]; exact HR.out.below hb3
    have hcl := cloneV_code A' (ne - a) (ce - a) (j.ev.drop a) w3 hR3 HLN.out (by omega)
    clear hw3 hs3 hR3 hHeld
    have hHeld := hb3
    refine wpAnyH_ready (rs := [13]) (by kernel_rfl) (by simp) ?_
    refine AllReadyH.cons rfl (fun K hK => ?_) AllReadyH.nil
    try simp only [List.getElem_toArray, List.getElem_cons_zero, List.getElem_cons_succ]
    go_simp
    refine hcl.mono ?_
    rintro en w4 ⟨A4, c4, rfl, ho4, _, hb4⟩
    have hb5 := keepB hb4 hb3
    have HE5 := Lib.hid (show Evs w4.heap.size w4 A4 (ne - a) (j.ev.drop a) from ⟨HLN.out, ownX_rd ho4, HI.out⟩)
    have HC5 := Lib.hid (show ne - a ≤ c4 from ho4.le)
    have HB5 := Lib.hid (keepB hb5 hb2)
    clear hcl ho4 hb4 hHeld hb3
    try simp only [Act.put, List.setIfInBounds_toArray, List.set_cons_zero, List.set_cons_succ]
    refine hK.out _ _ hb5 (fun _ => ?_)
    clear hK K
    try simp only [Act.put, List.setIfInBounds_toArray, List.set_cons_zero, List.set_cons_succ]
    have hHeld := hb5
    refine wpAnyH_take (i := 14) (v := ?_) rfl (by kernel_rfl) (by kernel_rfl) (by kernel_rfl) (fun _ _ _ h => h) (Or.inl ⟨by rfl, ?_⟩) hHeld ?_
    rotate_left
    · (intro w hSw; go_simp; (try with_reducible rfl))
    simp only [Act.put, List.getElem_toArray, List.getElem_cons_zero, List.getElem_cons_succ, List.setIfInBounds_toArray, List.set_cons_zero, List.set_cons_succ]
    refine wpAnyH_take (i := 15) (v := ?_) rfl (by kernel_rfl) (by kernel_rfl) (by kernel_rfl) (fun _ _ _ h => h) (Or.inl ⟨by rfl, ?_⟩) hHeld ?_
    rotate_left
    · (intro w hSw; go_simp; (try with_reducible rfl))
    simp only [Act.put, List.getElem_toArray, List.getElem_cons_zero, List.getElem_cons_succ, List.setIfInBounds_toArray, List.set_cons_zero, List.set_cons_succ]
    refine wpAnyH_done (by kernel_rfl) ?_ _
    refine hK0 _ _ ?_
    clear hK0 K0 hHeld hb5
    go_wp2_with fail
    go_ret2
    exact ⟨A4, ne - a, c4, by rw [HD.out.1, errV_nil]; rfl, HC5.out, by rw [HD.out.2]; exact HE5.out, HB5.out⟩
theorem span_nilJ (c : Int) (w : World) : Calls Try.prog 27 #[.pointer none, .int .i64 c] w fun en w' => ∃ A cc, en = .returned (.tuple #[.slice A 0 cc, errV 16]) ∧ Below w.heap.size w w' := by
  rw [errV_err (by decide)]
  go_enter Try.func27, Try.ntmps27
  go_wp2_with fail
  refine (find_nil c w).mono ?_
  rintro en w2 ⟨rfl, rfl⟩
  go_wp2_with fail
  go_ret2
  exact ⟨none, 0, rfl, Below.refl _ _⟩
theorem jr_buildJ (Ae : Option Addr) (ne ce : Nat) (Am : Option Addr) (nm cm : Nat) (k : Int) (W : World) : (Instr.build 64 #[(0, .slice Ae ne ce), (1, .slice Am nm cm), (2, .int .i64 k)]).run Try.prog W = .ok (.agg #[.slice Ae ne ce, .slice Am nm cm, .int .i64 k]) W := by kernel_rfl
theorem copy_nilJ (w : World) : Calls Try.prog 25 #[.pointer none] w fun en w' => en = .returned (.pointer none) ∧ Below w.heap.size w w' := by
  go_enter Try.func25, Try.ntmps25
  go_wp2_with fail
  go_ret
  exact ⟨rfl, Below.refl _ _⟩
set_option linter.unusedSimpArgs false in
set_option maxHeartbeats 0 in
theorem copy_codeJ (p : Nat) (j : JT) (F : Nat → Prop) (w : World) (h : JR w p j F) (ho : JOk j) :
    Calls Try.prog 25 #[ptrV p] w fun en w' => ∃ p' F', en = .returned (ptrV p') ∧ JR w' p' j F' ∧ (∀ k, F' k → w.heap.size ≤ k) ∧ Below w.heap.size w w' := by
  obtain ⟨Ae, ne, ce, Am, nm, cm, hx, _⟩ := h
  have HX := Lib.hid hx
  have HN := Lib.hid (show ne ≤ 65536 ∧ nm ≤ 2000000 from ⟨by rw [hx.ne_]; exact ho.n, by rw [hx.nm_]; exact hx.mb⟩)
  have c0 := hx.c0
  have c1 := hx.c1
  have c2 := hx.c2
  have hpl := hx.lt
  clear hx ho
  unfold ptrV
  go_enter Try.func25, Try.ntmps25
  go_upto_region 3 with fail
  rename_i K0 hK0
  have k0 : ∀ W, Below w.heap.size w W → W.cell? ⟨p, 0, none⟩ = some (.slice Ae ne ce) := fun W h => (h.cell hpl).trans c0
  have k1 : ∀ W, Below w.heap.size w W → W.cell? ⟨p, 1, none⟩ = some (.slice Am nm cm) := fun W h => (h.cell hpl).trans c1
  have k2 : ∀ W, Below w.heap.size w W → W.cell? ⟨p, 2, none⟩ = some (.int .i64 j.last) := fun W h => (h.cell hpl).trans c2
  refine region_below (by kernel_rfl) (fun hHeld => ?_)
  refine wpAnyH_take (i := 0) (v := ?_) rfl (by kernel_rfl) (by kernel_rfl) (by kernel_rfl) (fun _ _ _ h => h) (Or.inl ⟨by rfl, ?_⟩) hHeld ?_
  rotate_left
  · (intro w hSw; go_simp; (try with_reducible rfl))
  simp only [Act.put, List.getElem_toArray, List.getElem_cons_zero, List.getElem_cons_succ, List.setIfInBounds_toArray, List.set_cons_zero, List.set_cons_succ]
  refine wpAnyH_take (i := 1) (v := ?_) rfl (by kernel_rfl) (by kernel_rfl) (by kernel_rfl) (fun _ _ _ h => h) (Or.inl ⟨by rfl, ?_⟩) hHeld ?_
  rotate_left
  · (intro w hSw; go_simp; (try with_reducible rfl))
  simp only [Act.put, List.getElem_toArray, List.getElem_cons_zero, List.getElem_cons_succ, List.setIfInBounds_toArray, List.set_cons_zero, List.set_cons_succ]
  refine wpAnyH_take (i := 2) (v := ?_) rfl (by kernel_rfl) (by kernel_rfl) (by kernel_rfl) (fun _ _ _ h => h) (Or.inl ⟨by rfl, ?_⟩) hHeld ?_
  rotate_left
  · (intro w hSw; go_simp; (try with_reducible rfl))
  simp only [Act.put, List.getElem_toArray, List.getElem_cons_zero, List.getElem_cons_succ, List.setIfInBounds_toArray, List.set_cons_zero, List.set_cons_succ]
  refine wpAnyH_take (i := 3) (v := ?_) rfl (by kernel_rfl) (by kernel_rfl) (by kernel_rfl) (fun _ _ _ h => h) (Or.inl ⟨by rfl, ?_⟩) hHeld ?_
  rotate_left
  · (intro w hSw; go_simp; (try with_reducible rfl))
  simp only [Act.put, List.getElem_toArray, List.getElem_cons_zero, List.getElem_cons_succ, List.setIfInBounds_toArray, List.set_cons_zero, List.set_cons_succ]
  refine wpAnyH_take (i := 5) (v := ?_) rfl (by kernel_rfl) (by kernel_rfl) (by kernel_rfl) (fun _ _ _ h => h) (Or.inl ⟨by rfl, ?_⟩) hHeld ?_
  rotate_left
  · (intro w hSw; go_simp; (try with_reducible rfl))
  simp only [Act.put, List.getElem_toArray, List.getElem_cons_zero, List.getElem_cons_succ, List.setIfInBounds_toArray, List.set_cons_zero, List.set_cons_succ]
  refine wpAnyH_take (i := 6) (v := ?_) rfl (by kernel_rfl) (by kernel_rfl) (by kernel_rfl) (fun _ _ _ h => h) (Or.inl ⟨by rfl, ?_⟩) hHeld ?_
  rotate_left
  · (intro w hSw; go_simp; (try with_reducible rfl))
  simp only [Act.put, List.getElem_toArray, List.getElem_cons_zero, List.getElem_cons_succ, List.setIfInBounds_toArray, List.set_cons_zero, List.set_cons_succ]
  refine wpAnyH_take (i := 7) (v := ?_) rfl (by kernel_rfl) (by kernel_rfl) (by kernel_rfl) (fun _ _ _ h => h) (Or.inl ⟨by rfl, ?_⟩) hHeld ?_
  rotate_left
  · (intro w hSw; go_simp; (try with_reducible rfl))
  simp only [Act.put, List.getElem_toArray, List.getElem_cons_zero, List.getElem_cons_succ, List.setIfInBounds_toArray, List.set_cons_zero, List.set_cons_succ]
  refine wpAnyH_take (i := 8) (v := ?_) rfl (by kernel_rfl) (by kernel_rfl) (by kernel_rfl) (fun _ _ _ h => h) (Or.inl ⟨by rfl, ?_⟩) hHeld ?_
  rotate_left
  · (intro w hSw; go_simp; (try with_reducible rfl))
  simp only [Act.put, List.getElem_toArray, List.getElem_cons_zero, List.getElem_cons_succ, List.setIfInBounds_toArray, List.set_cons_zero, List.set_cons_succ]
  refine wpAnyH_take (i := 10) (v := ?_) rfl (by kernel_rfl) (by kernel_rfl) (by kernel_rfl) (fun _ _ _ h => h) (Or.inl ⟨by rfl, ?_⟩) hHeld ?_
  rotate_left
  · (intro w hSw; go_simp; (try with_reducible rfl))
  simp only [Act.put, List.getElem_toArray, List.getElem_cons_zero, List.getElem_cons_succ, List.setIfInBounds_toArray, List.set_cons_zero, List.set_cons_succ]
  refine wpAnyH_take (i := 11) (v := ?_) rfl (by kernel_rfl) (by kernel_rfl) (by kernel_rfl) (fun _ _ _ h => h) (Or.inl ⟨by rfl, ?_⟩) hHeld ?_
  rotate_left
  · (intro w hSw; go_simp; (try with_reducible rfl))
  simp only [Act.put, List.getElem_toArray, List.getElem_cons_zero, List.getElem_cons_succ, List.setIfInBounds_toArray, List.set_cons_zero, List.set_cons_succ]
  refine wpAnyH_take (i := 12) (v := ?_) rfl (by kernel_rfl) (by kernel_rfl) (by kernel_rfl) (fun _ _ _ h => h) (Or.inl ⟨by rfl, ?_⟩) hHeld ?_
  rotate_left
  · (intro w hSw; go_simp; (try with_reducible rfl))
  simp only [Act.put, List.getElem_toArray, List.getElem_cons_zero, List.getElem_cons_succ, List.setIfInBounds_toArray, List.set_cons_zero, List.set_cons_succ]
  refine wpAnyH_take (i := 13) (v := ?_) rfl (by kernel_rfl) (by kernel_rfl) (by kernel_rfl) (fun _ _ _ h => h) (Or.inl ⟨by rfl, ?_⟩) hHeld ?_
  rotate_left
  · (intro w hSw; go_simp; (try with_reducible rfl))
  simp only [Act.put, List.getElem_toArray, List.getElem_cons_zero, List.getElem_cons_succ, List.setIfInBounds_toArray, List.set_cons_zero, List.set_cons_succ]
  clear k0 k1 k2 c0 c1 c2
  have hxd := HX.out.keep hHeld
  obtain ⟨w3, hw3⟩ : ∃ w3, w3 = w.drew := ⟨_, rfl⟩
  rw [← hw3] at hHeld hxd
  rw [← hw3]
  have hcl := cloneV_code Ae ne ce j.ev w3 hxd.rd hxd.ne_ (by have := HN.out; omega)
  clear hw3
  refine wpAnyH_ready (rs := [4]) (by kernel_rfl) (by simp) ?_
  refine AllReadyH.cons rfl (fun K hK => ?_) AllReadyH.nil
  try simp only [List.getElem_toArray, List.getElem_cons_zero, List.getElem_cons_succ]
  go_simp
  refine hcl.mono ?_
  rintro en w4 ⟨A4, c4, rfl, ho4, hn4, hb4⟩
  have hb04 := keepB hb4 hHeld
  have hx4 := hxd.keep hb4
  have HN4 := Lib.hid (show ∀ k, (Value.slice A4 0 0).ownBlock = some k → w.heap.size ≤ k from fun k hk => Nat.le_trans hHeld.size (hn4 k hk))
  have hcl2 := cloneK_code Am nm cm j.ms w4 hx4.ms (by have := HN.out; omega)
  clear hcl hn4 hb4 hxd hHeld
  try simp only [Act.put, List.setIfInBounds_toArray, List.set_cons_zero, List.set_cons_succ]
  refine hK.out _ _ hb04 (fun _ => ?_)
  clear hK K
  try simp only [Act.put, List.setIfInBounds_toArray, List.set_cons_zero, List.set_cons_succ]
  refine wpAnyH_ready (rs := [9]) (by kernel_rfl) (by simp) ?_
  refine AllReadyH.cons rfl (fun K hK => ?_) AllReadyH.nil
  try simp only [List.getElem_toArray, List.getElem_cons_zero, List.getElem_cons_succ]
  go_simp
  refine hcl2.mono ?_
  rintro en w5 ⟨A5, c5, rfl, ho5, hn5, hb5⟩
  have hb05 := keepB hb5 hb04
  have HN5 := Lib.hid (show ∀ k, (Value.slice A5 0 0).ownBlock = some k → w.heap.size ≤ k from fun k hk => Nat.le_trans hb04.size (hn5 k hk))
  have ho45 := ho4.stay (w' := w5) fun k hk => hb5.block k (ho4.lt hk)
  have hjb := fun W => jr_buildJ A4 ne c4 A5 nm c5 j.last W
  clear hcl2 hn5 hb5 hx4 ho4 hb04
  try simp only [Act.put, List.setIfInBounds_toArray, List.set_cons_zero, List.set_cons_succ]
  refine hK.out _ _ hb05 (fun _ => ?_)
  clear hK K
  try simp only [Act.put, List.setIfInBounds_toArray, List.set_cons_zero, List.set_cons_succ]
  have hHeld := hb05
  refine wpAnyH_take (i := 14) (v := ?_) rfl (by kernel_rfl) (by kernel_rfl) (by kernel_rfl) (fun _ _ _ h => h) (Or.inl ⟨by rfl, ?_⟩) hHeld ?_
  rotate_left
  · (intro w hSw; go_simp; (try with_reducible rfl))
  simp only [Act.put, List.getElem_toArray, List.getElem_cons_zero, List.getElem_cons_succ, List.setIfInBounds_toArray, List.set_cons_zero, List.set_cons_succ]
  clear hjb
  refine wpAnyH_ready (rs := [15]) (by kernel_rfl) (by simp) ?_
  refine AllReadyH.cons rfl (fun K hK => ?_) AllReadyH.nil
  try simp only [List.getElem_toArray, List.getElem_cons_zero, List.getElem_cons_succ]
  go_simp
  have hb6 : Below w5.heap.size w5 (w5.alloc (.cells #[.slice A4 ne c4, .slice A5 nm c5, .int .i64 j.last] 64)) := (Below.refl _ _).alloc (Nat.le_refl _) _
  have hb06 := keepB hb6 hb05
  have HF := Lib.hid (show ∃ F', JR (w5.alloc (.cells #[.slice A4 ne c4, .slice A5 nm c5, .int .i64 j.last] 64)) w5.heap.size j F' ∧ (∀ k, F' k → w.heap.size ≤ k) from
    ⟨JF w5.heap.size A4 A5, ⟨A4, ne, c4, A5, nm, c5, JX.new (heap_alloc_new _ _) (ho45.stay fun k hk => hb6.block k (ho45.lt hk)) HX.out.ei (ho5.stay fun k hk => hb6.block k (ho5.lt hk)) HX.out.mb, fun _ => Iff.rfl⟩, fun k hk => by
      rcases hk with rfl | hk | hk
      · exact hb05.size
      · exact HN4.out k hk
      · exact HN5.out k hk⟩)
  have HB := Lib.hid hb06
  clear ho45 ho5 hb6 hb05 hHeld
  refine hK.out _ _ hb06 (fun _ => ?_)
  clear hK K
  try simp only [Act.put, List.setIfInBounds_toArray, List.set_cons_zero, List.set_cons_succ]
  have hHeld := hb06
  refine wpAnyH_take (i := 16) (v := ?_) rfl (by kernel_rfl) (by kernel_rfl) (by kernel_rfl) (fun _ _ _ h => h) (Or.inl ⟨by rfl, ?_⟩) hHeld ?_
  rotate_left
  · (intro w hSw; go_simp; (try with_reducible rfl))
  simp only [Act.put, List.getElem_toArray, List.getElem_cons_zero, List.getElem_cons_succ, List.setIfInBounds_toArray, List.set_cons_zero, List.set_cons_succ]
  refine wpAnyH_done (by kernel_rfl) ?_ _
  refine hK0 _ _ ?_
  clear hK0 K0 hHeld hb06
  go_wp2_with fail
  go_ret
  obtain ⟨F', h1, h2⟩ := HF.out
  exact ⟨w5.heap.size, F', rfl, h1, h2, HB.out⟩
end Go.Proofs.Ytncmfkmgaghklaa
namespace Go.Proofs.Ytncmfkmgaghklaa
open Go.RowKit Ex
set_option maxRecDepth 100000
theorem jm_info_int : (Try.prog.info? 3).map (fun i => (i.zero, i.size, i.bytes)) = some (some (.int .i64 0), 1, 8) := by kernel_rfl
theorem ck_size (m : Int × Nat) : (Try.prog.info? 71).map (·.size) = some (ckC m).size := by
  have h : (Try.prog.info? 71).map (·.size) = some 2 := by kernel_rfl
  rw [h]; rfl
theorem ck_one (m : Int × Nat) : (ckC m).all (·.oneCell') = true := by
  obtain ⟨a, b⟩ := m
  simp [ckC, Value.oneCell']
theorem ck_box (wr : World) (m : Int × Nat) : ∃ w3, w3 = (wr.alloc (.cells (ckC (0, 0)) 71)).setRow wr.heap.size (ckC m) ∧ w3.heap[wr.heap.size]? = some (.cells (ckC m) 71 (0, 0)) ∧ Below wr.heap.size wr w3 := by
  refine ⟨_, rfl, ?_, below_setRow ((Below.refl _ _).alloc (Nat.le_refl _) _) _ _ (Nat.le_refl _)⟩
  exact setRow_heap _ _ _ _ _ _ (heap_alloc_new _ _)
/-- Numbers in the making. -/
structure IBJ (w : World) (A : Option Addr) (m c : Nat) (l : List Int) (W : World) : Prop where
  own : Own .i64 3 W w.heap.size A m c l
  b : Below w.heap.size w W
theorem marks_nilJ (w : World) : Calls Try.prog 31 #[.pointer none] w fun en w' => ∃ A cc, en = .returned (.slice A 0 cc) ∧ Below w.heap.size w w' := by
  go_enter Try.func31, Try.ntmps31
  go_wp2_with fail
  go_ret
  exact ⟨none, 0, rfl, Below.refl _ _⟩
set_option linter.unusedSimpArgs false in
set_option maxHeartbeats 0 in
theorem marks_codeJ (p : Nat) (j : JT) (F : Nat → Prop) (w : World) (h : JR w p j F) : Calls Try.prog 31 #[ptrV p] w (IntsP w (numsJ j)) := by
  obtain ⟨Ae, ne, ce, Am, nm, cm, hx, _⟩ := h
  obtain ⟨i0, hi, hz0, hz1, hz2⟩ := info_parts jm_info_int
  have HX := Lib.hid hx
  have HL := Lib.hid hx.nm_
  have hn : nm ≤ 2000000 := by rw [hx.nm_]; exact hx.mb
  have c1 := hx.c1
  have hpl := hx.lt
  clear hx
  unfold ptrV
  go_enter Try.func31, Try.ntmps31
  go_upto_region 3 with fail
  go_upto_region 4 with (at_make; refine wpList_mk _ rfl _ _ 57 rfl .i64 w.heap.size 3 i0 _ 8 Try.underlying57 hi hz0 hz1 hz2 .i64 .i64 (nm : Int) rfl rfl (by omega) (by omega) (by omega) (Nat.le_refl _) ?_; intro w1 g1 hown1 hg1)
  have hb1 := (Below.refl w.heap.size w).grown hg1 (Nat.le_refl _) (fun k hk => by cases hk)
  have c1' := (hb1.cell (show (⟨p, 1, none⟩ : Addr).block < w.heap.size from hpl)).trans c1
  have HV0 := Lib.hid (show IBJ w (some g1) 0 (nm : Int).toNat ((j.ms.take 0).map Prod.fst) w1 from ⟨hown1, hb1⟩)
  clear hown1 hg1 hb1 c1
  go_upto_region 5 with fail
  clear c1'
  have f1 : (nm : Int) ≤ 2000000 := by omega
  rw [show (nm : Int).toNat = nm from Int.toNat_natCast nm] at *
  go_loopw [3, 19] (fun o i wr => ∃ (k c2 : Nat) (A2 : Option Addr), i = .int .i64 ((k : Nat) : Int) ∧ o = .slice A2 k c2 ∧ k ≤ nm ∧ Hid (IBJ w A2 k c2 ((j.ms.take k).map Prod.fst) wr)) (fun _ i _ => nm - (intOf i).toNat)
  case atStart => exact ⟨0, _, _, rfl, rfl, by omega, HV0⟩
  case round =>
    clear HV0
    obtain ⟨k, c2, A2, rfl, rfl, hk, HV⟩ := hrel
    by_cases hlt : k < nm
    · obtain ⟨m, hm⟩ : ∃ m, j.ms[k]? = some m := ⟨_, List.getElem?_eq_getElem (by rw [← HL.out]; exact hlt)⟩
      obtain ⟨g, hA, hg, ca, cb, _⟩ := (HX.out.keep HV.out.b).mk_at hm
      subst hA
      have HSeg := Lib.hid (show (j.ms.take (k + 1)).map Prod.fst = (j.ms.take k).map Prod.fst ++ [m.1] from by rw [List.take_add_one, hm]; simp)
      have p0 : (0 : Int) ≤ (k : Int) := by omega
      have p1 : (k : Int) < (nm : Int) := by omega
      have hnew : (wr.alloc (.cells (ckC (0, 0)) 71)).heap[wr.heap.size]? = some (.cells (ckC (0, 0)) 71 (0, 0)) := heap_alloc_new _ _
      have hsz := ck_size m
      have hone := ck_one m
      have hs2 : (ckC (0, 0)).size = (ckC m).size := rfl
      obtain ⟨w4, hw4, he4, hb4⟩ := ck_box wr m
      clear hm
      go_upto_region 7 with (refine wpList_store_row rfl 71 (.tmp 5) (.tmp 22) rfl wr.heap.size _ rfl rfl 71 (ckC (0, 0)) hnew hsz hs2 hone ?_)
      clear hnew hsz hone hs2 ca cb
      show Code.wp _ _ _ _ ((wr.alloc (.cells (ckC (0, 0)) 71)).setRow wr.heap.size (ckC m))
      rw [← hw4]
      obtain ⟨ge, hge⟩ : ∃ g, g = wr.heap.size := ⟨_, rfl⟩
      rw [← hge] at he4
      rw [← hge]
      clear hw4 hge
      have cn : w4.cell? ⟨ge, 0, none⟩ = some (.int .i64 m.1) := by rw [cell_of_row w4 ge 0 _ _ _ he4]; rfl
      obtain ⟨v, hv⟩ : ∃ v, v = m.1 := ⟨_, rfl⟩
      rw [← hv] at cn HSeg
      have HV4 : IBJ w A2 k c2 ((j.ms.take k).map Prod.fst) w4 := ⟨HV.out.own.below hb4 (Nat.le_refl _), keepB hb4 HV.out.b⟩
      have hbA : Below w4.heap.size w4 (w4.alloc (.cells #[.int .i64 v] 3)) := (Below.refl _ _).alloc (Nat.le_refl _) _
      have hO := HV4.own.alloc (.cells #[.int .i64 v] 3)
      have HB2 := Lib.hid (keepB hbA HV4.b)
      have hsz := HB2.out.size
      clear hbA HV4 hv he4 hb4 HV
      go_wp2_with (at_builtin; refine wpList_app rfl (.tmp 23) (.tmp 26) _ rfl .i64 w.heap.size 3 i0 _ 8 Try.underlying57 hi hz0 hz1 hz2 rfl A2 k c2 _ rfl hO _ (some ⟨w4.heap.size, 0, none⟩) 1 1 [v] rfl (Nums.one _ _ _ _) (by omega) (by omega) hsz ?_; intro A7 c7 w7 ho7 hg7)
      have HV7 := Lib.hid (show IBJ w A7 (k + 1) c7 ((j.ms.take (k + 1)).map Prod.fst) w7 from by rw [HSeg.out]; exact ⟨ho7, hO.belowGrown HB2.out hsz hg7⟩)
      clear ho7 hg7 hO cn
      go_roundw
      case rel => exact ⟨k + 1, _, _, by go_num, rfl, by omega, HV7⟩
      case measure => simp [intOf]; omega
    · obtain rfl : k = nm := by omega
      have HF := Lib.hid (show IBJ w A2 k c2 (numsJ j) wr from by
        have h := HV.out
        rw [List.take_of_length_le (by rw [← HL.out]; exact Nat.le_refl _)] at h
        exact h)
      go_wp2_with fail
      go_ret
      exact ⟨A2, k, c2, rfl, HF.out.own.cap, HF.out.own.nums, HF.out.b⟩
end Go.Proofs.Ytncmfkmgaghklaa
