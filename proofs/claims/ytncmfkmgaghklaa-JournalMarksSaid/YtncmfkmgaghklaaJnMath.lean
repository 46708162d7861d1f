/- Layer 14: a journal as plain data: events, checkpoints (number, how many events stand ahead), the last number given. -/
import Derived.Test.YtncmfkmgaghklaaNtDef
namespace Go.Proofs.Ytncmfkmgaghklaa
open Go.RowKit Ex
set_option maxRecDepth 100000
namespace Ex
structure JT where
  ev : List EvT
  ms : List (Int × Nat)
  last : Int
end Ex
open Ex
def j0 : JT := ⟨[], [], 0⟩
/-- The first event's error, in order; 0: none. -/
def chkL : List EvT → Int
  | [] => 0
  | e :: r => if chkE e ≠ 0 then chkE e else chkL r
def addE (j : JT) (l : List EvT) : Int := if chkL l ≠ 0 then chkL l else if 65536 < j.ev.length + l.length then 5 else 0
def addJ (j : JT) (l : List EvT) : JT := if addE j l = 0 then ⟨j.ev ++ l, j.ms, j.last⟩ else j
def markJ (j : JT) : JT := ⟨j.ev, j.ms ++ [(j.last + 1, j.ev.length)], j.last + 1⟩
/-- How many events stand ahead of a live checkpoint. -/
def findM : List (Int × Nat) → Int → Option Nat
  | [], _ => none
  | m :: r, c => if m.1 = c then some m.2 else findM r c
def findJ (j : JT) (c : Int) : Option Nat := findM j.ms c
def liveJ (j : JT) (c : Int) : Bool := (findJ j c).isSome
/-- The checkpoints up to one. -/
def cutM : List (Int × Nat) → Int → List (Int × Nat)
  | [], _ => []
  | m :: r, c => if m.1 = c then [m] else m :: cutM r c
def spanJ (j : JT) (c : Int) : List EvT := match findJ j c with | none => [] | some a => j.ev.drop a
def backJ (j : JT) (c : Int) : JT := match findJ j c with | none => j | some a => ⟨j.ev.take a, cutM j.ms c, j.last⟩
def foldJ (j : JT) (c : Int) : JT := match findJ j c with | none => j | some a => ⟨j.ev.take a ++ netL (j.ev.drop a), cutM j.ms c, j.last⟩
def deadJ (j : JT) (c : Int) : Int := if liveJ j c = true then 0 else 16
def numsJ (j : JT) : List Int := j.ms.map Prod.fst
/-- What is so of every journal. -/
structure JOk (j : JT) : Prop where
  r : (numsJ j).Pairwise (· < ·)
  b : ∀ m ∈ j.ms, 1 ≤ m.1 ∧ m.1 ≤ j.last ∧ m.2 ≤ j.ev.length
  a : (j.ms.map Prod.snd).Pairwise (· ≤ ·)
  n : j.ev.length ≤ 65536
  l : 0 ≤ j.last
theorem j0_ok : JOk j0 := ⟨List.Pairwise.nil, fun m hm => (by cases hm), List.Pairwise.nil, by simp [j0], by simp [j0]⟩
theorem add_ok {j : JT} {l : List EvT} (h : JOk j) : JOk (addJ j l) := by
  unfold addJ
  split
  · rename_i he
    refine ⟨h.r, fun m hm => ?_, h.a, ?_, h.l⟩
    · have := h.b m hm
      simp only [List.length_append]; omega
    · unfold addE at he
      by_cases hc : chkL l ≠ 0
      · rw [if_pos hc] at he; exact absurd he hc
      · rw [if_neg hc] at he
        simp only [List.length_append]
        by_cases hf : 65536 < j.ev.length + l.length
        · rw [if_pos hf] at he; cases he
        · omega
  · exact h
theorem mark_ok {j : JT} (h : JOk j) : JOk (markJ j) := by
  unfold markJ
  refine ⟨?_, fun m hm => ?_, ?_, h.n, by have := h.l; simp only; omega⟩
  · unfold numsJ
    rw [List.map_append, List.pairwise_append]
    refine ⟨h.r, by simp, fun a ha b hb => ?_⟩
    obtain ⟨m, hm, rfl⟩ := List.mem_map.1 ha
    obtain rfl : b = j.last + 1 := by simpa using hb
    have := (h.b m hm).2.1
    omega
  · rcases List.mem_append.1 hm with hm | hm
    · have := h.b m hm; simp only; omega
    · obtain rfl : m = (j.last + 1, j.ev.length) := by simpa using hm
      have := h.l
      simp only; omega
  · rw [List.map_append, List.pairwise_append]
    refine ⟨h.a, by simp, fun a ha b hb => ?_⟩
    obtain ⟨m, hm, rfl⟩ := List.mem_map.1 ha
    obtain rfl : b = j.ev.length := by simpa using hb
    exact (h.b m hm).2.2
theorem cutM_sub (mk : List (Int × Nat)) (c : Int) : (cutM mk c).Sublist mk := by
  induction mk with
  | nil => exact List.Sublist.slnil
  | cons m r ih =>
    simp only [cutM]
    split
    · exact (List.nil_sublist r).cons_cons m
    · exact ih.cons_cons m
theorem findM_mem {mk : List (Int × Nat)} {c : Int} {a : Nat} (h : findM mk c = some a) : (c, a) ∈ mk := by
  induction mk with
  | nil => cases h
  | cons m r ih =>
    simp only [findM] at h
    split at h
    · rename_i hm
      injection h with h
      subst hm h
      exact List.mem_cons_self ..
    · exact List.mem_cons_of_mem _ (ih h)
/-- What is cut stands behind no more events than the one cut to. -/
theorem cutM_le {mk : List (Int × Nat)} {c : Int} {a : Nat} (ha : (mk.map Prod.snd).Pairwise (· ≤ ·)) (h : findM mk c = some a) : ∀ m ∈ cutM mk c, m.2 ≤ a := by
  induction mk with
  | nil => cases h
  | cons x r ih =>
    simp only [List.map_cons, List.pairwise_cons] at ha
    simp only [findM] at h
    simp only [cutM]
    split at h
    · rename_i hx
      injection h with h
      rw [if_pos hx]
      intro m hm
      obtain rfl : m = x := by simpa using hm
      omega
    · rename_i hx
      rw [if_neg hx]
      intro m hm
      rcases List.mem_cons.1 hm with rfl | hm
      · exact ha.1 _ (List.mem_map.2 ⟨(c, a), findM_mem h, rfl⟩)
      · exact ih ha.2 h m hm
theorem go_ok {j : JT} {c : Int} {a : Nat} {ev : List EvT} (h : JOk j) (hf : findJ j c = some a) (ha : a ≤ ev.length) (hn : ev.length ≤ 65536) : JOk ⟨ev, cutM j.ms c, j.last⟩ := by
  refine ⟨h.r.sublist ((cutM_sub j.ms c).map _), fun m hm => ?_, h.a.sublist ((cutM_sub j.ms c).map _), hn, h.l⟩
  have h1 := h.b m ((cutM_sub j.ms c).subset hm)
  have h2 := cutM_le h.a hf m hm
  exact ⟨h1.1, h1.2.1, by simp only; omega⟩
theorem find_le {j : JT} {c : Int} {a : Nat} (h : JOk j) (hf : findJ j c = some a) : a ≤ j.ev.length := (h.b _ (findM_mem hf)).2.2
theorem back_ok {j : JT} {c : Int} (h : JOk j) : JOk (backJ j c) := by
  unfold backJ
  cases hf : findJ j c with
  | none => exact h
  | some a =>
    have hl := find_le h hf
    have := h.n
    exact go_ok h hf (by rw [List.length_take]; omega) (by rw [List.length_take]; omega)
theorem fold_ok {j : JT} {c : Int} (h : JOk j) : JOk (foldJ j c) := by
  unfold foldJ
  cases hf : findJ j c with
  | none => exact h
  | some a =>
    have hl := find_le h hf
    have := h.n
    have h2 := net_len (j.ev.drop a)
    rw [List.length_drop] at h2
    exact go_ok h hf (by rw [List.length_append, List.length_take]; omega) (by rw [List.length_append, List.length_take]; omega)
/-- A live checkpoint is one of the numbers. -/
theorem live_iff {j : JT} {c : Int} : liveJ j c = true ↔ c ∈ numsJ j := by
  unfold liveJ findJ numsJ
  induction j.ms with
  | nil => simp [findM]
  | cons m r ih =>
    simp only [findM, List.map_cons, List.mem_cons]
    by_cases hm : m.1 = c
    · simp [hm]
    · rw [if_neg hm, ih]
      exact ⟨fun h => .inr h, fun h => h.resolve_left (fun e => hm e.symm)⟩
theorem live_rng {j : JT} {c : Int} (h : JOk j) (hl : liveJ j c = true) : 1 ≤ c ∧ c ≤ j.last := by
  rw [live_iff] at hl
  obtain ⟨m, hm, rfl⟩ := List.mem_map.1 hl
  exact ⟨(h.b m hm).1, (h.b m hm).2.1⟩
theorem mark_live (j : JT) : liveJ (markJ j) (j.last + 1) = true := by
  rw [live_iff]; unfold markJ numsJ; simp
theorem cut_nums {mk : List (Int × Nat)} {c : Int} (h : c ∈ mk.map Prod.fst) : ∃ l, (cutM mk c).map Prod.fst = l ++ [c] := by
  induction mk with
  | nil => cases h
  | cons m r ih =>
    simp only [cutM]
    by_cases hm : m.1 = c
    · rw [if_pos hm]; exact ⟨[], by simp [hm]⟩
    · rw [if_neg hm]
      simp only [List.map_cons, List.mem_cons] at h
      obtain ⟨l, hl⟩ := ih (h.resolve_left (fun e => hm e.symm))
      exact ⟨m.1 :: l, by simp [hl]⟩
/-- Behind going back the checkpoint is the last one. -/
theorem back_last {j : JT} {c : Int} (hl : liveJ j c = true) : ∃ l, numsJ (backJ j c) = l ++ [c] := by
  have hm := live_iff.1 hl
  unfold liveJ at hl
  unfold backJ
  cases hf : findJ j c with
  | none => rw [hf] at hl; cases hl
  | some a => exact cut_nums hm
theorem back_live {j : JT} {c : Int} (hl : liveJ j c = true) : liveJ (backJ j c) c = true := by
  obtain ⟨l, h⟩ := back_last hl
  rw [live_iff, h]; simp
theorem back_dead {j : JT} {c : Int} (hl : liveJ j c = false) : backJ j c = j := by
  unfold liveJ at hl
  unfold backJ
  cases hf : findJ j c with
  | none => rfl
  | some a => rw [hf] at hl; cases hl
theorem back_len {j : JT} {c : Int} : (backJ j c).last = j.last := by
  unfold backJ
  cases findJ j c <;> rfl
end Go.Proofs.Ytncmfkmgaghklaa
