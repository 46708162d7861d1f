/- Layer 17: where no static is; how many creatures there are. -/
import Derived.Test.YtplfblccaeligaaDoorShSaid
import Derived.Test.YtplfblccaeligaaDoorShG3
namespace Go.Proofs.YtplfblccaeligaaDoor
open Go.RowKit Ex Mx Bx
set_option maxRecDepth 100000
theorem turnW_or {x n : Nat} (hx : x < 256) (hn : n < 256) : turnW x n true 8 = x ||| n := by
  refine Nat.eq_of_testBit_eq fun i => ?_
  rw [Nat.testBit_or]
  by_cases h64 : i < 64
  · rw [turnW_bit x n true i h64 8]
    by_cases h8 : i < 8
    · cases hb : n.testBit i <;> simp [h8]
    · have hn0 : n.testBit i = false := Nat.testBit_lt_two_pow (Nat.lt_of_lt_of_le hn (show 2 ^ 8 ≤ 2 ^ i from Nat.pow_le_pow_right (by omega) (by omega)))
      rw [if_neg (fun h => h8 h.1), hn0, Bool.or_false]
  · have hbig : ∀ y : Nat, y < 256 → y.testBit i = false := fun y hy => Nat.testBit_lt_two_pow (Nat.lt_of_lt_of_le hy (show 2 ^ 8 ≤ 2 ^ i from Nat.pow_le_pow_right (by omega) (by omega)))
    rw [hbig _ hx, hbig _ hn, hbig _ (turnW_256 hx (Nat.le_refl _))]; rfl
theorem or_small {a b : Nat} (ha : a < 256) (hb : b < 256) : bits .or .i64 (a : Int) (b : Int) = ((a ||| b : Nat) : Int) := by
  have hn : ∀ x : Nat, x < 256 → (BitVec.ofInt 64 (x : Int)).toNat = x := fun x hx => by rw [BitVec.toNat_ofInt]; omega
  show IntKind.i64.wrap (((BitVec.ofInt 64 (a : Int) ||| BitVec.ofInt 64 (b : Int)).toNat : Nat) : Int) = _
  rw [BitVec.toNat_or, hn a ha, hn b hb, IntKind.wrap_i64]
  have := Nat.or_lt_two_pow (n := 8) ha hb
  omega
theorem ofS_plain {s : StT} (h : statS s = []) (id : Int) : ofS s id = ((cdS s id).power + objS s id 7 + objS s id 8, (cdS s id).tough + objS s id 7 + objS s id 9, turnW (cdS s id).says.toNat (objS s id 10).toNat true 8) := by
  unfold ofS
  rw [h]; rfl
/-- A sum over the numbers below n. -/
def tot (f : Nat → Nat) : Nat → Nat
  | 0 => 0
  | n + 1 => tot f n + f n
theorem tot_congr {f g : Nat → Nat} : ∀ {n : Nat}, (∀ k < n, f k = g k) → tot f n = tot g n
  | 0, _ => rfl
  | n + 1, h => by
    show tot f n + f n = tot g n + g n
    rw [tot_congr (n := n) fun k hk => h k (by omega), h n (by omega)]
theorem tot_zero : ∀ n : Nat, tot (fun _ => 0) n = 0
  | 0 => rfl
  | n + 1 => by show tot _ n + 0 = 0; rw [tot_zero n]
theorem tot_add (f g : Nat → Nat) : ∀ n : Nat, tot (fun k => f k + g k) n = tot f n + tot g n
  | 0 => rfl
  | n + 1 => by
    show tot (fun k => f k + g k) n + (f n + g n) = tot f n + f n + (tot g n + g n)
    rw [tot_add f g n]; omega
theorem tot_one (m c : Nat) : ∀ n : Nat, tot (fun k => if k = m then c else 0) n = if m < n then c else 0
  | 0 => by simp [tot]
  | n + 1 => by
    show tot (fun k => if k = m then c else 0) n + (if n = m then c else 0) = _
    rw [tot_one m c n]
    by_cases h1 : m < n
    · rw [if_pos h1, if_neg (by omega), if_pos (by omega)]; omega
    · by_cases h2 : n = m
      · rw [if_neg h1, if_pos h2, if_pos (by omega)]; omega
      · rw [if_neg h1, if_neg h2, if_neg (by omega)]
/-- How many of the numbers below n. -/
def cntB (P : Int → Bool) (n : Nat) : Nat := tot (fun k => if P (k : Int) = true then 1 else 0) n
theorem cntB_succ (P : Int → Bool) (n : Nat) : cntB P (n + 1) = cntB P n + if P (n : Int) = true then 1 else 0 := rfl
theorem cntB_le (P : Int → Bool) : ∀ n : Nat, cntB P n ≤ n
  | 0 => Nat.le_refl _
  | n + 1 => by
    have := cntB_le P n
    rw [cntB_succ]
    split <;> omega
theorem filt_tot (P : Int → Bool) (n : Nat) : ∀ l : List Int, (∀ x ∈ l, 0 ≤ x ∧ x < (n : Int)) → (l.filter P).length = tot (fun k => if P (k : Int) = true then l.count (k : Int) else 0) n
  | [], _ => by
    rw [tot_congr (g := fun _ => 0) (fun k _ => by simp), tot_zero]; rfl
  | x :: l, h => by
    have ih := filt_tot P n l fun y hy => h y (List.mem_cons_of_mem _ hy)
    obtain ⟨h0, h1⟩ := h x List.mem_cons_self
    obtain ⟨m, rfl⟩ := Int.eq_ofNat_of_zero_le h0
    rw [tot_congr (g := fun k => (if P (k : Int) = true then l.count (k : Int) else 0) + (if k = m then (if P (m : Int) = true then 1 else 0) else 0)) (fun k _ => by
      by_cases e : k = m
      · subst e
        rw [List.count_cons_self, if_pos rfl]
        split <;> rfl
      · rw [List.count_cons_of_ne (by omega), if_neg e, Nat.add_zero]), tot_add, ← ih, tot_one, if_pos (by omega)]
    cases hp : P (m : Int)
    · rw [List.filter_cons_of_neg (by simp [hp])]; simp
    · rw [List.filter_cons_of_pos hp]; simp
theorem beast_two {s : StT} : ∀ {l : List Int}, (∀ id ∈ l, isB s id = true → objS s id 2 = 0 ∨ objS s id 2 = 1) → (beastL s 0 l).length + (beastL s 1 l).length = (l.filter (isB s)).length
  | [], _ => rfl
  | id :: l, h => by
    have ih := beast_two (l := l) fun x hx => h x (List.mem_cons_of_mem _ hx)
    have hx := h id List.mem_cons_self
    simp only [beastL, List.length_append]
    cases hb : isB s id
    · rw [List.filter_cons_of_neg (by simp [hb])]
      simp [← ih]
    · rw [List.filter_cons_of_pos hb, List.length_cons, ← ih]
      rcases hx hb with h2 | h2
      · rw [if_pos ⟨rfl, h2⟩, if_neg (by rw [h2]; simp)]; simp; omega
      · rw [if_neg (by rw [h2]; simp), if_pos ⟨rfl, h2⟩]; simp; omega
/-- In a right state an object on the field stands there once. -/
theorem right_once {s : StT} (h : chkS s = 0) {k : Nat} {o : Nat → Int} (ho : s.objs[k]? = some o) (h8 : o 3 = 8) : (s.lists 8).count (k : Int) = 1 := by
  have h1 := (right_parts h).2.2.1
  unfold zonesB at h1
  simp only [Bool.and_eq_true, List.all_eq_true, List.mem_range] at h1
  have hk := (List.getElem?_eq_some_iff.1 ho).1
  have h2 := h1.2 k hk
  rw [List.getD_eq_getElem?_getD, ho] at h2
  simp only [Option.getD_some, zoneO, Bool.and_eq_true, beq_iff_eq] at h2
  have hz : ∀ z < 11, z ≠ 8 → (s.lists z).count (k : Int) = 0 := fun z hz hne => by
    have h3 := h2.1.1
    unfold apartB at h3
    simp only [List.all_eq_true, List.mem_range, Bool.or_eq_true, beq_iff_eq, Bool.not_eq_true'] at h3
    rcases h3 z hz with h4 | h4
    · rw [h8] at h4; omega
    · refine List.count_eq_zero.2 fun hm => ?_
      rw [List.contains_iff_mem.2 hm] at h4; cases h4
  have ht := h2.1.2
  simp only [timesN_succ, hz 0 (by omega) (by omega), hz 1 (by omega) (by omega), hz 2 (by omega) (by omega), hz 3 (by omega) (by omega), hz 4 (by omega) (by omega), hz 5 (by omega) (by omega), hz 6 (by omega) (by omega), hz 7 (by omega) (by omega), hz 9 (by omega) (by omega), hz 10 (by omega) (by omega)] at ht
  rw [show timesN s k 0 = 0 from rfl] at ht
  omega
theorem right_two {s : StT} (h : chkS s = 0) {k : Nat} {o : Nat → Int} (ho : s.objs[k]? = some o) : o 2 = 0 ∨ o 2 = 1 := by
  have h1 := right_obj h ho
  unfold objectB at h1
  simp only [Bool.and_eq_true, inR, decide_eq_true_eq] at h1
  omega
/-- Each creature is one of one player's. -/
theorem beasts_all {s : StT} (h : chkS s = 0) : cntB (isB s) s.objs.length = (beastS s 0).length + (beastS s 1).length := by
  unfold beastS
  rw [beast_two fun id hid hb => by
    have hin := right_in h (z := 8) (by omega) hid
    obtain ⟨k, rfl⟩ := Int.eq_ofNat_of_zero_le hin.1
    obtain ⟨o, ho, _, hos⟩ := isB_at hb
    rw [hos]; exact right_two h ho, filt_tot (isB s) s.objs.length _ fun x hx => right_in h (z := 8) (by omega) hx]
  refine tot_congr fun k _ => ?_
  split
  · rename_i hb
    obtain ⟨o, ho, h8, _⟩ := isB_at hb
    exact (right_once h ho h8).symm
  · rfl
end Go.Proofs.YtplfblccaeligaaDoor
