/- Layer 16: draws as plain data: a draw below n, an order that is drawn. -/
import Derived.WalkKit
namespace Go.Proofs.Ytllamlmeklalaaa
/-- A draw, the cursor behind it, the error's number. -/
def pickD (l : List Int) (cur n : Int) : Int × Int × Int :=
  if 4096 < l.length then (0, 0, 19) else if n < 1 ∨ cur < 0 then (0, 0, 1) else if (l.length : Int) ≤ cur then (0, 0, 13) else (l.getD cur.toNat 0 % n, cur + 1, 0)
def leftD (l : List Int) (cur : Int) : Int := if cur < 0 ∨ (l.length : Int) ≤ cur then 0 else (l.length : Int) - cur
def needD (n : Int) : Int := if n < 1 then 0 else n - 1
def swapL (o : List Int) (i k : Nat) : List Int := (o.set i (o.getD k 0)).set k (o.getD i 0)
/-- Draws, one behind the other, from place i down. -/
def stepL : List Int → Nat → List Int → List Int
  | [], _, o => o
  | d :: r, i, o => stepL r (i - 1) (swapL o i (d % ((i + 1 : Nat) : Int)).toNat)
def upto (n : Nat) : List Int := (List.range n).map fun k : Nat => (k : Int)
/-- The order when c draws are over. -/
def ordAt (l : List Int) (cur n c : Nat) : List Int := stepL ((l.drop cur).take c) (n - 1) (upto n)
/-- An order, the cursor behind it, the error's number. -/
def ordD (l : List Int) (cur n : Int) : List Int × Int × Int :=
  if 4096 < l.length then ([], 0, 19) else if n < 0 ∨ 400 < n ∨ cur < 0 then ([], 0, 1) else if leftD l cur < needD n then ([], 0, 13) else (ordAt l cur.toNat n.toNat (n.toNat - 1), cur + needD n, 0)
theorem swap_len (o : List Int) (i k : Nat) : (swapL o i k).length = o.length := by simp [swapL]
theorem step_len : ∀ (ds : List Int) (i : Nat) (o : List Int), (stepL ds i o).length = o.length
  | [], _, _ => rfl
  | d :: r, i, o => by rw [stepL, step_len r, swap_len]
theorem upto_len (n : Nat) : (upto n).length = n := by simp [upto]
theorem ord_len (l : List Int) (cur n c : Nat) : (ordAt l cur n c).length = n := by rw [ordAt, step_len, upto_len]
theorem step_snoc : ∀ (ds : List Int) (d : Int) (i : Nat) (o : List Int), stepL (ds ++ [d]) i o = swapL (stepL ds i o) (i - ds.length) (d % ((i - ds.length + 1 : Nat) : Int)).toNat
  | [], d, i, o => by simp [stepL]
  | x :: r, d, i, o => by
    have ih := step_snoc r d (i - 1) (swapL o i (x % ((i + 1 : Nat) : Int)).toNat)
    simp only [List.cons_append, stepL, ih, List.length_cons]
    rw [show i - 1 - r.length = i - (r.length + 1) by omega]
/-- One draw more. -/
theorem ord_next {l : List Int} {cur n c : Nat} {d : Int} (h : l[cur + c]? = some d) : ordAt l cur n (c + 1) = swapL (ordAt l cur n c) (n - 1 - c) (d % ((n - 1 - c + 1 : Nat) : Int)).toNat := by
  unfold ordAt
  have hlt := (List.getElem?_eq_some_iff.1 h).1
  have e : (l.drop cur).take (c + 1) = (l.drop cur).take c ++ [d] := by
    rw [List.take_add_one, List.getElem?_drop, h]; rfl
  rw [e, step_snoc, List.length_take, List.length_drop, Nat.min_eq_left (by omega)]
theorem swap_perm {o : List Int} {i k : Nat} (hi : i < o.length) (hk : k < o.length) : (swapL o i k).Perm o := by
  unfold swapL
  have h := List.set_set_perm (as := o) hi hk
  rw [List.getD_eq_getElem?_getD, List.getD_eq_getElem?_getD, List.getElem?_eq_getElem hi, List.getElem?_eq_getElem hk]
  exact h
theorem swap_get {o : List Int} {i k : Nat} (hi : i < o.length) (hk : k < o.length) (j : Nat) : (swapL o i k)[j]? = if j = k then o[i]? else if j = i then o[k]? else o[j]? := by
  unfold swapL
  rw [List.getD_eq_getElem?_getD, List.getD_eq_getElem?_getD, List.getElem?_eq_getElem hi, List.getElem?_eq_getElem hk]
  simp only [Option.getD_some]
  rw [List.getElem?_set]
  by_cases h1 : k = j
  · subst h1; simp [hk]
  · rw [if_neg h1, if_neg (fun e : j = k => h1 e.symm), List.getElem?_set]
    by_cases h2 : i = j
    · subst h2; simp [hi]
    · rw [if_neg h2, if_neg (fun e : j = i => h2 e.symm)]
theorem step_perm : ∀ (ds : List Int) (i : Nat) (o : List Int), ds.length ≤ i → i < o.length → (stepL ds i o).Perm o
  | [], _, _, _, _ => List.Perm.refl _
  | d :: r, i, o, hd, hi => by
    simp only [List.length_cons] at hd
    have h1 : 0 ≤ d % ((i + 1 : Nat) : Int) := Int.emod_nonneg _ (by omega)
    have h2 : d % ((i + 1 : Nat) : Int) < ((i + 1 : Nat) : Int) := Int.emod_lt_of_pos _ (by omega)
    rw [stepL]
    exact (step_perm r (i - 1) _ (by omega) (by rw [swap_len]; omega)).trans (swap_perm hi (by omega))
theorem ord_perm (l : List Int) (cur n c : Nat) (hc : c + 1 ≤ n) : (ordAt l cur n c).Perm (upto n) :=
  step_perm _ _ _ (by rw [List.length_take]; omega) (by rw [upto_len]; omega)
theorem upto_nodup (n : Nat) : (upto n).Nodup := by
  unfold upto
  rw [List.Nodup, List.pairwise_map]
  exact List.nodup_range.imp fun h e => h (by omega)
theorem upto_mem {n : Nat} {x : Int} : x ∈ upto n ↔ 0 ≤ x ∧ x < n := by
  unfold upto
  rw [List.mem_map]
  constructor
  · rintro ⟨k, hk, rfl⟩
    rw [List.mem_range] at hk
    omega
  · rintro ⟨h0, h1⟩
    exact ⟨x.toNat, List.mem_range.2 (by omega), by omega⟩
theorem upto_get {n k : Nat} (h : k < n) : (upto n)[k]? = some (k : Int) := by
  unfold upto
  rw [List.getElem?_map, List.getElem?_range h]; rfl
theorem upto_succ (n : Nat) : upto (n + 1) = upto n ++ [(n : Int)] := by
  unfold upto
  rw [List.range_succ, List.map_append]; rfl
/-- What a Go remainder is: the least number that differs by a multiple, or that less n. -/
theorem tmod_two (d n : Int) (hn : 0 < n) : d.tmod n = d % n ∨ (d.tmod n = d % n - n ∧ 0 < d % n) := by
  rw [Int.tmod_eq_emod]
  split
  · exact .inl (by simp)
  · rename_i h
    have h0 : 0 ≤ d % n := Int.emod_nonneg _ (by omega)
    have h1 : d % n ≠ 0 := fun e => h (.inr (Int.dvd_of_emod_eq_zero e))
    exact .inr ⟨by rw [Int.natAbs_of_nonneg (by omega)], by omega⟩
theorem emod_rng (d n : Int) (hn : 0 < n) : 0 ≤ d % n ∧ d % n < n := ⟨Int.emod_nonneg _ (by omega), Int.emod_lt_of_pos _ hn⟩
theorem tmod_at (d n i : Int) (hn : 0 < n) (h0 : 0 ≤ i) (h1 : i < n) : ((d.tmod n + n - i).tmod n = 0) ↔ i = d % n := by
  obtain ⟨r0, r1⟩ := emod_rng d n hn
  rw [← Int.dvd_iff_tmod_eq_zero]
  have key : ∀ x : Int, -n < x → x < n → (n ∣ x ↔ x = 0) := fun x h2 h3 => by
    constructor
    · intro h
      by_cases hx : x = 0
      · exact hx
      · have := Int.le_of_dvd (a := n) (b := x.natAbs) (by omega) (by rw [Int.dvd_natAbs]; exact h)
        omega
    · rintro rfl; exact Int.dvd_zero n
  rcases tmod_two d n hn with e | ⟨e, _⟩
  · rw [e, show d % n + n - i = (d % n - i) + n by omega, Int.dvd_add_left (Int.dvd_refl n), key _ (by omega) (by omega)]
    omega
  · rw [e, show d % n - n + n - i = d % n - i by omega, key _ (by omega) (by omega)]
    omega
theorem tmod_end (d n : Int) (hn : 0 < n) : (d.tmod n + n).tmod n = d % n := by
  obtain ⟨r0, r1⟩ := emod_rng d n hn
  rcases tmod_two d n hn with e | ⟨e, _⟩
  · rw [e, Int.tmod_eq_emod_of_nonneg (by omega), Int.add_emod_right, Int.emod_eq_of_lt r0 r1]
  · rw [e, show d % n - n + n = d % n by omega, Int.tmod_eq_emod_of_nonneg r0, Int.emod_eq_of_lt r0 r1]
theorem tmod_neg (d n : Int) (hn : 0 < n) : (if d.tmod n < 0 then d.tmod n + n else d.tmod n) = d % n := by
  obtain ⟨r0, r1⟩ := emod_rng d n hn
  rcases tmod_two d n hn with e | ⟨e, _⟩
  · split <;> omega
  · split <;> omega
theorem tmod_rng (d n : Int) (hn : 0 < n) : -n < d.tmod n ∧ d.tmod n < n := by
  obtain ⟨r0, r1⟩ := emod_rng d n hn
  rcases tmod_two d n hn with e | ⟨e, h⟩ <;> omega
end Go.Proofs.Ytllamlmeklalaaa
