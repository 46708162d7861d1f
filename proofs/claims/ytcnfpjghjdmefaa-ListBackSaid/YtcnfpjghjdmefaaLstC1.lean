/- Layer 9: the code's has, first, Index. -/
import Derived.Test.YtcnfpjghjdmefaaLstSaid
namespace Go.Proofs.Ytcnfpjghjdmefaa
open Go.RowKit Ex
set_option maxRecDepth 100000
instance (n : Nat) (p : Int) : Decidable (Within n p) := inferInstanceAs (Decidable (_ ∧ _))
theorem has_any (A : Option Addr) (n c : Nat) (p : Int) (w : World) : Calls Try.prog 23 #[.slice A n c, .int .i64 p] w fun e w' => e = .returned (.bool (decide (Within n p))) ∧ w' = w := by
  obtain ⟨q, hq⟩ : ∃ q, q = decide (Within n p) := ⟨_, rfl⟩
  rw [← hq]
  by_cases h0 : 0 ≤ p
  · have d0 : decide (0 ≤ p) = true := decide_eq_true h0
    have d1 : decide (p < (n : Int)) = q := by rw [hq]; unfold Within; simp [h0]
    clear hq h0
    go_enter Try.func23, Try.ntmps23
    go_wp2_with fail
    go_ret
    exact ⟨rfl, rfl⟩
  · have d0 : decide (0 ≤ p) = false := decide_eq_false h0
    obtain rfl : q = false := by rw [hq]; exact decide_eq_false (fun h => h0 h.1)
    clear hq h0
    go_enter Try.func23, Try.ntmps23
    go_wp2_with fail
    go_ret
    exact ⟨rfl, rfl⟩
theorem first_any (A : Option Addr) (n c : Nat) (l : List Int) (x : Int) (w : World) (B : Nat) (hN : Nums .i64 w B A n l) (hn : n ≤ 1000000) :
    Calls Try.prog 25 #[.slice A n c, .int .i64 x] w fun e w' => e = .returned (.int .i64 (idxL l x)) ∧ w' = w := by
  have hln := hN.len
  obtain ⟨q, hq⟩ : ∃ q, q = idxL l x := ⟨_, rfl⟩
  rw [← hq]
  have HQ := Lib.hid hq
  have HN := Lib.hid hN
  clear hN hq
  go_enter Try.func25, Try.ntmps25
  go_upto_region 2 with fail
  go_loopw [9] (fun i wr => ∃ k : Nat, i = .int .i64 ((k : Nat) : Int) ∧ k ≤ n ∧ wr = w ∧ Hid (∀ j : Nat, j < k → l[j]? ≠ some x)) (fun i _ => n - (intOf i).toNat)
  case atStart => exact ⟨0, rfl, by omega, rfl, fun j hj => absurd hj (by omega)⟩
  case round =>
    obtain ⟨k, rfl, hk, rfl, HF⟩ := hrel
    by_cases hlt : k < n
    · obtain ⟨a, rfl, _, hc⟩ := HN.out.at_ (show k < l.length by omega)
      have hd : decide ((k : Int) < (n : Int)) = true := by simp; omega
      have g0 : (0 : Int) ≤ (k : Int) := by omega
      have g1 : (k : Int) < (n : Int) := by omega
      obtain ⟨y, hy⟩ : ∃ y, y = l[k]'(by omega) := ⟨_, rfl⟩
      rw [← hy] at hc
      have HY := Lib.hid (show l[k]? = some y by rw [hy]; exact List.getElem?_eq_getElem (by omega))
      clear hy
      by_cases e : y = x
      · have HE := Lib.hid (show q = (k : Int) from HQ.out.trans (idx_at HF.out (by rw [HY.out, e])))
        have hb : (y == x) = true := by simpa using e
        clear e
        go_wp2_with fail
        go_ret
        exact ⟨by rw [HE.out]; rfl, rfl⟩
      · have hb : (y == x) = false := by simpa using e
        have HF2 := Lib.hid (show ∀ j : Nat, j < k + 1 → l[j]? ≠ some x from fun j hj => by
          by_cases h : j = k
          · subst h; rw [HY.out]; intro h; injection h with h; exact e h
          · exact HF.out j (by omega))
        clear e
        go_wp2_with fail
        go_roundw
        case rel => exact ⟨k + 1, by go_num, by omega, by trivial, HF2⟩
        case measure => simp [intOf]; omega
    · obtain rfl : k = n := by omega
      have hd : decide ((k : Int) < (k : Int)) = false := by simp
      have HE := Lib.hid (show q = -1 from HQ.out.trans (idx_none.2 fun h => by
        obtain ⟨j, hj, e⟩ := List.mem_iff_getElem.1 h
        exact HF.out j (by omega) (by rw [List.getElem?_eq_getElem hj, e])))
      go_wp2_with fail
      go_ret
      exact ⟨by rw [HE.out]; rfl, rfl⟩
theorem index_code (A : Option Addr) (n c : Nat) (l : List Int) (x : Int) (w : World) (hL : LsIn w A n c l) : Calls Try.prog 15 #[.slice A n c, .int .i64 x] w fun e w' => e = .returned (.int .i64 (idxL l x)) ∧ Below w.heap.size w w' := by
  have h := first_any A n c l x w _ hL.N (by have := hL.few; omega)
  obtain ⟨q, hq⟩ : ∃ q, q = idxL l x := ⟨_, rfl⟩
  rw [← hq] at h ⊢
  clear hq hL
  go_enter Try.func15, Try.ntmps15
  go_wp2_with fail
  refine h.mono ?_
  rintro e w' ⟨rfl, rfl⟩
  clear h
  go_wp2_with fail
  go_ret
  exact ⟨rfl, Below.refl _ _⟩
/-- A block of bools reads as l. -/
def Bools (w : World) (g : Nat) (l : List Bool) : Prop := w.heap[g]? = some (.cells (l.map Value.bool).toArray 4 (0, 0))
theorem Bools.at_ {w : World} {g : Nat} {l : List Bool} (h : Bools w g l) {i : Nat} (hi : i < l.length) : w.cell? ⟨g, i, none⟩ = some (.bool l[i]) := by
  rw [cell_of_row w g i _ _ _ h]; simp [hi]
theorem Bools.set_ {w : World} {g : Nat} {l : List Bool} (h : Bools w g l) (i : Nat) (b : Bool) : Bools (w.setCell ⟨g, i, none⟩ (.bool b)) g (l.set i b) := by
  unfold Bools
  rw [heap_setCell_same w g i _ _ _ h]
  simp [List.map_set]
theorem Bools.keep {w w' : World} {g : Nat} {l : List Bool} (h : Bools w g l) (hb : Below w.heap.size w w') : Bools w' g l := (hb.block g (Array.getElem?_eq_some_iff.1 h).1).trans h
theorem firstB_any (g n c : Nat) (l : List Bool) (x : Bool) (w : World) (hB : Bools w g l) (hl : l.length = n) (hn : n ≤ 1000000) :
    Calls Try.prog 29 #[.slice (some ⟨g, 0, none⟩) n c, .bool x] w fun e w' => ∃ q : Int, (0 ≤ q ↔ x ∈ l) ∧ e = .returned (.int .i64 q) ∧ w' = w := by
  have HB := Lib.hid hB
  clear hB
  go_enter Try.func29, Try.ntmps29
  go_upto_region 2 with fail
  go_loopw [9] (fun i wr => ∃ k : Nat, i = .int .i64 ((k : Nat) : Int) ∧ k ≤ n ∧ wr = w ∧ Hid (∀ j : Nat, j < k → l[j]? ≠ some x)) (fun i _ => n - (intOf i).toNat)
  case atStart => exact ⟨0, rfl, by omega, rfl, fun j hj => absurd hj (by omega)⟩
  case round =>
    obtain ⟨k, rfl, hk, rfl, HF⟩ := hrel
    by_cases hlt : k < n
    · have hc := HB.out.at_ (show k < l.length by omega)
      have hd : decide ((k : Int) < (n : Int)) = true := by simp; omega
      have g0 : (0 : Int) ≤ (k : Int) := by omega
      have g1 : (k : Int) < (n : Int) := by omega
      obtain ⟨y, hy⟩ : ∃ y, y = l[k]'(by omega) := ⟨_, rfl⟩
      rw [← hy] at hc
      have HY := Lib.hid (show l[k]? = some y by rw [hy]; exact List.getElem?_eq_getElem (by omega))
      clear hy
      by_cases e : y = x
      · have HE := Lib.hid (show x ∈ l from List.mem_of_getElem? (by rw [HY.out, e]))
        have hb : (y == x) = true := by simpa using e
        clear e
        go_wp2_with fail
        go_ret
        exact ⟨(k : Int), ⟨fun _ => HE.out, fun _ => by omega⟩, rfl, rfl⟩
      · have hb : (y == x) = false := by simpa using e
        have HF2 := Lib.hid (show ∀ j : Nat, j < k + 1 → l[j]? ≠ some x from fun j hj => by
          by_cases h : j = k
          · subst h; rw [HY.out]; intro h; injection h with h; exact e h
          · exact HF.out j (by omega))
        clear e
        go_wp2_with fail
        go_roundw
        case rel => exact ⟨k + 1, by go_num, by omega, by trivial, HF2⟩
        case measure => simp [intOf]; omega
    · obtain rfl : k = n := by omega
      have hd : decide ((k : Int) < (k : Int)) = false := by simp
      have HE := Lib.hid (show x ∉ l from fun h => by
        obtain ⟨j, hj, e⟩ := List.mem_iff_getElem.1 h
        exact HF.out j (by omega) (by rw [List.getElem?_eq_getElem hj, e]))
      go_wp2_with fail
      go_ret
      exact ⟨-1, ⟨fun h => absurd h (by omega), fun h => absurd h HE.out⟩, rfl, rfl⟩
end Go.Proofs.Ytcnfpjghjdmefaa
