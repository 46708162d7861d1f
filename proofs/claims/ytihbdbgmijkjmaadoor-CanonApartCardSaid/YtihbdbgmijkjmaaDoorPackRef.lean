/- Layer 3: the document's answers: fields, Head, Rest, Object. -/
import Derived.Test.YtihbdbgmijkjmaaDoorRows
import Derived.Test.YtihbdbgmijkjmaaDoorArr
import Derived.Test.YtihbdbgmijkjmaaDoorSl
import Derived.Test.YtihbdbgmijkjmaaDoorReg
import Derived.Test.YtihbdbgmijkjmaaDoorBase0
import Derived.WalkSpells
import Derived.WalkLawsBesides
import Derived.Lib.Hide
import Derived.BigQuiet
import Derived.Deep.QuietTactic
import Derived.Laws.Bits64b
import Derived.Laws.BitsLemmas
import Derived.IntWalk
namespace Go.Proofs.YtihbdbgmijkjmaaDoor
open Go.RowKit

namespace Px
/-- The head's fields, how many numbers each can tell, what each is worth. -/
def fl : List Int := [1, 2, 3, 4, 5, 11, 13, 17, 10]
def sz : List Int := [2, 2, 16, 2, 2, 2, 4, 4, 256]
def fN (i : Nat) : Nat := (fl.getD i 0).toNat
def sN (i : Nat) : Int := sz.getD i 1
def wN : Nat → Int
  | 0 => 1
  | k + 1 => wN k * sN k
/-- The first k fields are in range. -/
def Fit (o : Nat → Int) (k : Nat) : Prop := ∀ i, i < k → 0 ≤ o (fN i) ∧ o (fN i) < sN i
def sumH (o : Nat → Int) : Nat → Int
  | 0 => 0
  | k + 1 => sumH o k + wN k * o (fN k)
theorem all9 {p : Nat → Prop} (h0 : p 0) (h1 : p 1) (h2 : p 2) (h3 : p 3) (h4 : p 4) (h5 : p 5) (h6 : p 6) (h7 : p 7) (h8 : p 8) : ∀ i, i < 9 → p i := by
  intro i hi
  match i, hi with
  | 0, _ => exact h0
  | 1, _ => exact h1
  | 2, _ => exact h2
  | 3, _ => exact h3
  | 4, _ => exact h4
  | 5, _ => exact h5
  | 6, _ => exact h6
  | 7, _ => exact h7
  | 8, _ => exact h8
theorem sN_pos : ∀ i, i < 9 → 2 ≤ sN i ∧ sN i ≤ 256 := all9 (by decide) (by decide) (by decide) (by decide) (by decide) (by decide) (by decide) (by decide) (by decide)
theorem fN_lt : ∀ i, i < 9 → fN i < 18 := all9 (by decide) (by decide) (by decide) (by decide) (by decide) (by decide) (by decide) (by decide) (by decide)
theorem wN_pos : ∀ i, i < 10 → 1 ≤ wN i ∧ wN i ≤ 2097152 := by
  intro i hi
  match i, hi with
  | 0, _ | 1, _ | 2, _ | 3, _ | 4, _ | 5, _ | 6, _ | 7, _ | 8, _ | 9, _ => exact ⟨by decide, by decide⟩
theorem fl_at : ∀ i, i < 9 → fl[i]? = some ((fN i : Nat) : Int) := all9 (by decide) (by decide) (by decide) (by decide) (by decide) (by decide) (by decide) (by decide) (by decide)
theorem sz_at : ∀ i, i < 9 → sz[i]? = some (sN i) := all9 (by decide) (by decide) (by decide) (by decide) (by decide) (by decide) (by decide) (by decide) (by decide)
theorem sumH_range {o : Nat → Int} : ∀ k, k ≤ 9 → Fit o k → 0 ≤ sumH o k ∧ sumH o k < wN k
  | 0, _, _ => by simp [sumH, wN]
  | k + 1, hk, hf => by
    have ih := sumH_range k (by omega) (fun i hi => hf i (by omega))
    have h := hf k (by omega)
    have hw := wN_pos k (by omega)
    simp only [sumH, wN]
    have h1 : 0 ≤ wN k * o (fN k) := Int.mul_nonneg (by omega) h.1
    have h2 : wN k * o (fN k) ≤ wN k * (sN k - 1) := Int.mul_le_mul_of_nonneg_left (by omega) (by omega)
    rw [Int.mul_sub, Int.mul_one] at h2
    omega
end Px
open Px

theorem Nums.ofBlock {k : IntKind} {w : World} {g : Nat} {t : TypeId} (l : List Int) (h : w.heap[g]? = some (.cells (l.map (Value.int k)).toArray t (0, 0))) : Nums k w (g + 1) (some ⟨g, 0, none⟩) l.length l := by
  refine ⟨rfl, fun i u hu => ⟨_, rfl, by simp, ?_⟩⟩
  have hadd : (⟨g, 0, none⟩ : Addr).add i = ⟨g, i, none⟩ := by unfold Addr.add; split <;> simp_all
  rw [hadd, cell_of_row w g i _ t (0, 0) h]
  simp [hu]
theorem fields_any (w : World) :
    Calls Tryd.prog 45 #[] w fun e w' => ∃ A1 A2, e = .returned (.tuple #[.slice A1 9 9, .slice A2 9 9]) ∧ Nums .i64 w' w'.heap.size A1 9 fl ∧ Nums .i64 w' w'.heap.size A2 9 sz ∧ Below w.heap.size w w' := by
  go_enter Tryd.func45, Tryd.ntmps45
  go_wp2_with fail
  go_ret2
  refine ⟨_, _, rfl, ?_, ?_, ((Below.refl _ _).alloc (Nat.le_refl _) _).alloc (by simp) _⟩
  · exact (Nums.ofBlock (k := .i64) (t := 3) fl (heap_alloc2_old _ _ _)).more (by simp)
  · exact (Nums.ofBlock (k := .i64) (t := 3) sz (heap_alloc2_new _ _ _)).more (by simp)
def RHRel (w2 : World) (o : Nat → Int) (u v i : Value) (wr : World) : Prop :=
  ∃ k : Nat, i = .int .i64 ((k : Nat) : Int) ∧ u = .int .i64 (sumH o k) ∧ v = .int .i64 (wN k) ∧ k ≤ 9 ∧ Fit o k ∧ Below w2.heap.size w2 wr
theorem fit_next {o : Nat → Int} {k : Nat} (h : Fit o k) (h0 : 0 ≤ o (fN k)) (h1 : o (fN k) < sN k) : Fit o (k + 1) := fun i hi => by
  by_cases e : i = k
  · subst e; exact ⟨h0, h1⟩
  · exact h i (by omega)
theorem not_fit {o : Nat → Int} {k : Nat} (hk : k < 9) (h : o (fN k) < 0 ∨ sN k ≤ o (fN k)) : ¬ Fit o 9 := fun hf => by
  have := hf k hk; omega
/-- What Head answers. -/
def HeadPost (o : Nat → Int) (good bad : Value) (w : World) (e : Ending) (w' : World) : Prop :=
  ((Fit o 9 ∧ e = .returned (.tuple #[.int .u32 (sumH o 9), good])) ∨ (¬ Fit o 9 ∧ e = .returned (.tuple #[.int .u32 0, bad]))) ∧ Below w.heap.size w w'
theorem head_mul {o : Nat → Int} {k : Nat} {x : Int} (hk : k < 9) (hx : x = o (fN k)) (hf : Fit o k) (h0 : 0 ≤ x) (h1 : x < sN k) :
    ∃ q, wrap64 (wN k * x) = q ∧ q = wN k * x ∧ 0 ≤ q ∧ sumH o k + q < 2097153 ∧ 0 ≤ sumH o k ∧ sumH o k < 2097153 := by
  subst hx
  have hr := sumH_range k (by omega) hf
  have hr2 := sumH_range (k + 1) (by omega) (fit_next hf h0 h1)
  have hw := wN_pos k (by omega)
  have hw2 := wN_pos (k + 1) (by omega)
  have hq : 0 ≤ wN k * o (fN k) := Int.mul_nonneg (by omega) h0
  simp only [sumH] at hr2
  exact ⟨_, IntWalk.wrap64_in _ ⟨by omega, by omega⟩, rfl, hq, by omega, hr.1, by omega⟩
theorem head_mul2 {k : Nat} (hk : k < 9) : wrap64 (wN k * sN k) = wN (k + 1) := by
  have hw2 := wN_pos (k + 1) (by omega)
  simp only [wN] at hw2 ⊢
  exact IntWalk.wrap64_in _ ⟨by omega, by omega⟩
theorem u32_small {x : Int} (h0 : 0 ≤ x) (h1 : x < 4294967296) : IntKind.u32.wrap x = x := by rw [IntKind.wrap_u32]; omega
set_option maxRecDepth 100000 in
set_option maxHeartbeats 1000000 in
theorem headRef_any (o : Nat → Int) (w : World) :
    Calls Tryd.prog 25 #[.agg (arr .i64 18 o)] w (HeadPost o (.int .i64 0) (.int .i64 1) w) := by
  go_enter Tryd.func25, Tryd.ntmps25
  go_wp2_with fail
  refine (fields_any _).mono ?_
  rintro e w2 ⟨A1, A2, rfl, hN1, hN2, hb⟩
  have ha : ArrAt .i64 18 56 w2 w.heap.size o := (ArrAt.new w .i64 18 56 o).keep hb
  have hb2 : Below w.heap.size w w2 := ((Below.refl _ _).alloc (Nat.le_refl _) _).trans (hb.mono (by simp))
  have HN1 := Lib.hid hN1
  have HN2 := Lib.hid hN2
  have HA := Lib.hid ha
  clear hN1 hN2 ha hb
  go_wp2_with fail
  go_loopw [6, 7, 16] (fun u v i wr => RHRel w2 o u v i wr) (fun _ _ i _ => 9 - (intOf i).toNat)
  case atStart => exact ⟨0, rfl, rfl, rfl, by omega, fun i hi => absurd hi (by omega), Below.refl _ _⟩
  case round =>
    obtain ⟨k, rfl, rfl, rfl, hk, hfit, hbel⟩ := hrel
    have HF := Lib.hid hfit
    clear hfit
    by_cases hlt : k < 9
    · have hj := fN_lt k hlt
      have hs := sN_pos k hlt
      have hw := wN_pos k (by omega)
      obtain ⟨a1, e1, _, g1⟩ := (HN1.out.below hbel).2 k _ (fl_at k hlt)
      obtain ⟨a2, e2, _, g2⟩ := (HN2.out.below hbel).2 k _ (sz_at k hlt)
      have g3 := (HA.out.keep hbel).cell hj
      have hmul2 := head_mul2 hlt
      obtain ⟨x, hx⟩ : ∃ x, x = o (fN k) := ⟨_, rfl⟩
      have HX := Lib.hid hx
      rw [← hx] at g3
      clear hx
      have b0 : (0 : Int) ≤ ((fN k : Nat) : Int) := by omega
      have b1 : ((fN k : Nat) : Int) < 18 := by omega
      have b2 : (0 : Int) ≤ (k : Int) := by omega
      have b3 : (k : Int) < 9 := by omega
      subst e1 e2
      by_cases h0 : x < 0
      · have HB := Lib.hid (not_fit (o := o) hlt (by rw [← HX.out]; exact .inl h0))
        go_wp2_with fail
        go_quiet (fail)
        go_wp2_with fail
        go_ret2
        exact ⟨.inr ⟨HB.out, rfl⟩, below_drewN (hb2.trans (hbel.mono hb2.size)) _⟩
      · by_cases h1 : x < sN k
        · have hd0 : decide (x < 0) = false := by simpa using h0
          obtain ⟨q, hq, hq1, hq2, hq3, hq4, hq5⟩ := head_mul hlt HX.out HF.out (by omega) h1
          have HQ := Lib.hid hq1
          clear hq1
          have HF2 := Lib.hid (fit_next HF.out (by rw [← HX.out]; omega) (by rw [← HX.out]; exact h1))
          go_wp2_with fail
          go_quiet (fail)
          go_wp2_with fail
          go_roundw
          case rel => exact ⟨k + 1, by go_num, by rw [HQ.out, HX.out]; rfl, by rw [hmul2], by omega, HF2.out, below_drewN hbel _⟩
          case measure => simp [intOf]; omega
        · have hd0 : decide (x < 0) = false := by simpa using h0
          have HB := Lib.hid (not_fit (o := o) hlt (by rw [← HX.out]; right; omega))
          clear hmul2
          go_wp2_with fail
          go_quiet (fail)
          go_wp2_with fail
          go_ret2
          exact ⟨.inr ⟨HB.out, rfl⟩, below_drewN (hb2.trans (hbel.mono hb2.size)) _⟩
    · obtain rfl : k = 9 := by omega
      have hr := sumH_range 9 (by omega) HF.out
      obtain ⟨q, hq⟩ : ∃ q, q = sumH o 9 := ⟨_, rfl⟩
      have hw9 : wN 9 = 2097152 := by decide
      rw [hw9, ← hq] at hr
      obtain ⟨hr0, hr1⟩ := hr
      rw [← hq]
      have HQ := Lib.hid hq
      clear hq hw9
      go_wp2_with fail
      go_ret2
      exact ⟨.inl ⟨HF.out, by rw [← HQ.out]; rfl⟩, hb2.trans (hbel.mono hb2.size)⟩
def restL (o : Nat → Int) : List Int := [o 0, o 6, o 7, o 8, o 9, o 12, o 14, o 15, o 16]
def restF (o : Nat → Int) (i : Nat) : Int := (restL o).getD i 0
theorem rest_lit (o : Nat → Int) : #[Value.int .i64 (o 0), Value.int .i64 (o 6), Value.int .i64 (o 7), Value.int .i64 (o 8), Value.int .i64 (o 9), Value.int .i64 (o 12), Value.int .i64 (o 14), Value.int .i64 (o 15), Value.int .i64 (o 16)] = arr .i64 9 (restF o) :=
  (arr_list .i64 (restL o)).symm
theorem zero9 : #[Value.int .i64 0, Value.int .i64 0, Value.int .i64 0, Value.int .i64 0, Value.int .i64 0, Value.int .i64 0, Value.int .i64 0, Value.int .i64 0, Value.int .i64 0] = arr .i64 9 (fun _ => 0) := (arr_zero .i64 9).symm
attribute [local go_sem] arr_get
theorem size9 : (Tryd.prog.info? 25).map (·.size) = some 9 := by kernel_rfl
theorem size18 : (Tryd.prog.info? 56).map (·.size) = some 18 := by kernel_rfl
set_option maxRecDepth 100000 in
set_option maxHeartbeats 1000000 in
theorem restRef_any (o : Nat → Int) (w : World) :
    Calls Tryd.prog 26 #[.agg (arr .i64 18 o)] w fun e w' => e = .returned (.agg (arr .i64 9 (restF o))) ∧ Below w.heap.size w w' := by
  go_enter Tryd.func26, Tryd.ntmps26
  go_wp2_with fail
  rw [rest_lit]
  exact bodyPost_ret (v := .agg (arr .i64 9 (restF o)))
    (results_cell_row (ty := 25) (p := 2) (by kernel_rfl) _ _ (w.heap.size + 1) 25 _ (0, 0) _ rfl (heap_alloc2_new _ _ _) Tryd.underlying25 rfl (by rw [arr_size]; exact size9))
    rfl ⟨rfl, ((Below.refl _ _).alloc (Nat.le_refl _) _).alloc (by simp) _⟩
end Go.Proofs.YtihbdbgmijkjmaaDoor
