/- Layer 16: each order can be drawn, as plain data. -/
import Derived.Test.YtllamlmeklalaaaRnMath
import Derived.RowKit
namespace Go.Proofs.Ytllamlmeklalaaa
open Go.RowKit
theorem get_ext {a b : List Int} (h : ∀ j : Nat, a[j]? = b[j]?) : a = b := List.ext_getElem? h
/-- The place where what must stand last stands by now. -/
theorem all_find {now want : List Int} {N i : Nat} (hp : now.Perm want) (hnd : want.Nodup) (hl : want.length = N) (hi : i < N) (ha : ∀ j, i < j → j < N → now[j]? = want[j]?) :
    ∃ k, k ≤ i ∧ now[k]? = want[i]? ∧ ∀ j < k, now[j]? ≠ want[i]? := by
  have hln : now.length = N := hp.length_eq.trans hl
  have hwi : want[i]? = some want[i] := List.getElem?_eq_getElem (by omega)
  have hmem : want[i] ∈ now := hp.mem_iff.2 (List.getElem_mem _)
  have hex : ∃ k : Nat, now[k]? = want[i]? := by
    obtain ⟨k, hk⟩ := List.mem_iff_getElem?.1 hmem
    exact ⟨k, by rw [hk, hwi]⟩
  have key : ∀ n k : Nat, k ≤ n → now[k]? = want[i]? → ∃ k : Nat, now[k]? = want[i]? ∧ ∀ j < k, now[j]? ≠ want[i]? := by
    intro n
    induction n with
    | zero => intro k hk h; exact ⟨k, h, fun j hj => by omega⟩
    | succ n ih =>
      intro k hk h
      by_cases hj : ∃ j : Nat, j < k ∧ now[j]? = want[i]?
      · obtain ⟨j, hjk, hj⟩ := hj
        exact ih j (by omega) hj
      · exact ⟨k, h, fun j hjk e => hj ⟨j, hjk, e⟩⟩
  obtain ⟨k0, hk0⟩ := hex
  obtain ⟨k, hk, hleast⟩ := key k0 k0 (Nat.le_refl _) hk0
  refine ⟨k, ?_, hk, hleast⟩
  have hkl : k < N := by
    have : now[k]? = some want[i] := by rw [hk, hwi]
    have := (List.getElem?_eq_some_iff.1 this).1
    omega
  rcases Nat.lt_or_ge i k with h | h
  · have h1 := (ha k h hkl).symm.trans hk
    rw [hwi, List.getElem?_eq_getElem (show k < want.length by omega)] at h1
    injection h1 with h1
    have h2 := List.pairwise_iff_getElem.1 hnd i k (by omega) (by omega) h
    exact absurd h1.symm h2
  · exact h
/-- Behind the exchange one place more is right. -/
theorem all_next {now want : List Int} {N i k : Nat} (hl : now.length = N) (hi : i < N) (hk : k ≤ i) (hk2 : now[k]? = want[i]?) (ha : ∀ j, i < j → j < N → now[j]? = want[j]?) :
    ∀ j, i ≤ j → j < N → (swapL now i k)[j]? = want[j]? := fun j hj hjN => by
  rw [swap_get (by omega) (by omega)]
  by_cases h1 : j = k
  · rw [if_pos h1]
    obtain rfl : k = i := by omega
    obtain rfl := h1
    exact hk2
  · rw [if_neg h1]
    by_cases h2 : j = i
    · rw [if_pos h2, h2]; exact hk2
    · rw [if_neg h2]; exact ha j (by omega) hjN
/-- All places are right. -/
theorem all_done {now want : List Int} {N : Nat} (hp : now.Perm want) (hnd : want.Nodup) (hl : want.length = N) (ha : ∀ j, 0 < j → j < N → now[j]? = want[j]?) : now = want := by
  have hln : now.length = N := hp.length_eq.trans hl
  refine get_ext fun j => ?_
  by_cases hj : j < N
  · by_cases h0 : j = 0
    · subst h0
      obtain ⟨k, hk, h1, _⟩ := all_find hp hnd hl hj (fun j h1 h2 => ha j h1 h2)
      obtain rfl : k = 0 := by omega
      exact h1
    · exact ha j (by omega) hj
  · rw [List.getElem?_eq_none (by omega), List.getElem?_eq_none (by omega)]
theorem ord_all {d : List Int} {N : Nat} (hd : d.length = N - 1) (hN : N ≤ 400) : ordD d 0 (N : Int) = (stepL d (N - 1) (upto N), (d.length : Int), 0) := by
  unfold ordD
  rw [if_neg (by omega), if_neg (by omega), if_neg]
  · have hn : needD (N : Int) = (d.length : Int) := by
      unfold needD
      split <;> omega
    simp only [Int.toNat_natCast, ordAt]
    rw [show (0 : Int).toNat = 0 from rfl, List.drop_zero, List.take_of_length_le (by omega), hn, Int.zero_add]
  · unfold leftD needD
    split <;> split <;> omega
/-- The draws so far, and what they make. -/
structure AllS (want : List Int) (N z : Nat) (d now : List Int) : Prop where
  n : d.length = z
  s : stepL d (N - 1) (upto N) = now
  p : now.Perm want
  a : ∀ j, N - 1 - z < j → j < N → now[j]? = want[j]?
  r : ∀ x ∈ d, 0 ≤ x ∧ x ≤ (N : Int)
theorem AllS.start {want : List Int} {N : Nat} (hp : want.Perm (upto N)) : AllS want N 0 [] (upto N) := ⟨rfl, rfl, hp.symm, fun j h1 h2 => by omega, fun x hx => by cases hx⟩
theorem AllS.len {want : List Int} {N z : Nat} {d now : List Int} (h : AllS want N z d now) : now.length = N := by rw [← h.s, step_len, upto_len]
theorem AllS.next {want : List Int} {N z i k : Nat} {d now : List Int} (h : AllS want N z d now) (hi : i = N - 1 - z) (hz : z + 1 < N) (hk : k ≤ i) (hk2 : now[k]? = want[i]?) : AllS want N (z + 1) (d ++ [(k : Int)]) (swapL now i k) := by
  have hl := h.len
  refine ⟨by rw [List.length_append, h.n]; rfl, ?_, (swap_perm (by omega) (by omega)).trans h.p, fun j h1 h2 => ?_, fun x hx => ?_⟩
  · rw [step_snoc, h.s, h.n, ← hi]
    congr 1
    rw [Int.emod_eq_of_lt (by omega) (by omega), Int.toNat_natCast]
  · exact all_next hl (by omega) hk hk2 (fun j h3 h4 => h.a j (by omega) h4) j (by omega) h2
  · rcases List.mem_append.1 hx with hx | hx
    · exact h.r x hx
    · simp at hx; omega
theorem wrap_u (x : Int) : ∃ u : Nat, IntKind.u64.wrap x = (u : Int) := by
  have h : IntKind.u64.wrap x = x % 18446744073709551616 := by simp only [IntKind.wrap, IntKind.bits, IntKind.signed]; simp
  exact ⟨(x % 18446744073709551616).toNat, by rw [h]; omega⟩
theorem u_small {y : Int} (h0 : 0 ≤ y) (h1 : y < 18446744073709551616) : IntKind.u64.wrap y = y := by
  have h : IntKind.u64.wrap y = y % 18446744073709551616 := by simp only [IntKind.wrap, IntKind.bits, IntKind.signed]; simp
  rw [h]; omega
theorem mod_12 (u : Nat) : ∃ N : Nat, (u : Int) % 12 = (N : Int) ∧ wrap64 (N : Int) = (N : Int) ∧ N < 12 := ⟨u % 12, by omega, by unfold wrap64; omega, by omega⟩
theorem mod_n (u : Nat) {N : Nat} (h0 : 0 < N) (h1 : N < 12) : ∃ k : Nat, (u : Int) % (N : Int) = (k : Int) ∧ wrap64 (k : Int) = (k : Int) ∧ k < N := by
  have h := Nat.mod_lt u h0
  exact ⟨u % N, rfl, by unfold wrap64; omega, h⟩
theorem rem_n (i : Nat) {N : Nat} (h0 : 0 < N) : ∃ k : Nat, Int.tmod (i : Int) (N : Int) = (k : Int) ∧ k < N := ⟨i % N, rfl, Nat.mod_lt i h0⟩
end Go.Proofs.Ytllamlmeklalaaa
