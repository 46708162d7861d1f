/- Layer 15: what KnowHides says, as plain data. -/
import Derived.Test.YtmhabodijmnldaaDoorKwSee
import Derived.Test.YtmhabodijmnldaaDoorKwG0
import Derived.Test.YtmhabodijmnldaaDoorStSame
import Derived.Test.YtmhabodijmnldaaDoorEvMath
namespace Go.Proofs.YtmhabodijmnldaaDoor
open Go.RowKit Ex
set_option maxRecDepth 100000
theorem chk_parts {s : StT} (h : chkS s = 0) : s.objs.length ≤ 400 ∧ rangesB s = true ∧ zonesB s = true ∧ (s.objs.all formedB) = true := by
  unfold chkS at h
  split at h
  · cases h
  split at h
  · cases h
  split at h
  · cases h
  split at h
  · cases h
  rename_i a b c d
  exact ⟨by omega, by simpa using b, by simpa using c, by simpa using d⟩
theorem chk_mk {s : StT} (h : s.objs.length ≤ 400) (h1 : rangesB s = true) (h2 : zonesB s = true) (h3 : (s.objs.all formedB) = true) : chkS s = 0 := by
  unfold chkS
  rw [if_neg (by omega), if_neg (by simp [h1]), if_neg (by simp [h2]), if_neg (by rw [h3]; simp)]
theorem chk_obj {s : StT} (h : chkS s = 0) {k : Nat} {o : Nat → Int} (ho : s.objs[k]? = some o) : objectB o s.objs.length = true := by
  have h1 := (chk_parts h).2.1
  unfold rangesB at h1
  simp only [Bool.and_eq_true, List.all_eq_true] at h1
  exact h1.1.1.1 o (List.mem_of_getElem? ho)
theorem chk_17 {s : StT} (h : chkS s = 0) {k : Nat} {o : Nat → Int} (ho : s.objs[k]? = some o) : 0 ≤ o 17 ∧ o 17 ≤ 3 := by
  have h1 := chk_obj h ho
  unfold objectB at h1
  simp only [Bool.and_eq_true, inR, decide_eq_true_eq] at h1
  omega
theorem updI_ne {o : Nat → Int} {j i : Nat} {c : Int} (h : i ≠ j) : updI o j c i = o i := if_neg h
/-- Another card in range: as right as before. -/
theorem chk_card {s : StT} (h : chkS s = 0) {k : Nat} {o : Nat → Int} (ho : s.objs[k]? = some o) {c : Int} (hc : 0 ≤ c ∧ c ≤ 119) : chkS ⟨s.objs.set k (updI o 0 c), s.lists, s.pl, s.gm⟩ = 0 := by
  obtain ⟨h0, h1, h2, h3⟩ := chk_parts h
  have hk := (List.getElem?_eq_some_iff.1 ho).1
  have e : s.objs[k] = o := (List.getElem?_eq_some_iff.1 ho).2
  have hobj := chk_obj h ho
  refine chk_mk (by show (s.objs.set k _).length ≤ 400; rw [List.length_set]; exact h0) ?_ ?_ ?_
  · unfold rangesB at h1 ⊢
    simp only [Bool.and_eq_true, List.all_eq_true, List.length_set] at h1 ⊢
    refine ⟨⟨⟨fun x hx => ?_, h1.1.1.2⟩, h1.1.2⟩, h1.2⟩
    rcases List.mem_or_eq_of_mem_set hx with hx | rfl
    · exact h1.1.1.1 x hx
    · unfold objectB at hobj ⊢
      simp only [Bool.and_eq_true] at hobj ⊢
      have h0 : updI o 0 c 0 = c := if_pos rfl
      have hi : ∀ i, i ≠ 0 → updI o 0 c i = o i := fun i hi => updI_ne hi
      rw [h0, hi 1 (by omega), hi 2 (by omega), hi 3 (by omega), hi 4 (by omega), hi 5 (by omega), hi 6 (by omega), hi 7 (by omega), hi 8 (by omega), hi 9 (by omega), hi 10 (by omega), hi 11 (by omega), hi 12 (by omega), hi 13 (by omega), hi 14 (by omega), hi 15 (by omega), hi 16 (by omega), hi 17 (by omega)]
      have hci : inR c 0 119 = true := by unfold inR; simp [hc.1, hc.2]
      simp only [hci, hobj, and_self]
  · unfold zonesB at h2 ⊢
    simp only [Bool.and_eq_true, List.all_eq_true, List.length_set, List.mem_range] at h2 ⊢
    refine ⟨by unfold listsB at *; simp only [List.length_set]; exact h2.1, fun i hi => ?_⟩
    have := h2.2 i hi
    have hs : zoneO ⟨s.objs.set k (updI o 0 c), s.lists, s.pl, s.gm⟩ i ((s.objs.set k (updI o 0 c)).getD i fun _ => 0) = zoneO s i (s.objs.getD i fun _ => 0) := by
      by_cases hik : i = k
      · subst hik
        rw [getD_in _ (by rw [List.length_set]; exact hi), getD_in _ hi, List.getElem_set_self, e]
        rfl
      · rw [getD_in _ (by rw [List.length_set]; exact hi), getD_in _ hi, List.getElem_set_ne (by omega)]
        rfl
    rw [hs]; exact this
  · simp only [List.all_eq_true] at h3 ⊢
    intro x hx
    rcases List.mem_or_eq_of_mem_set hx with hx | rfl
    · exact h3 x hx
    · have := h3 o (List.mem_of_getElem? ho)
      unfold formedB zeroB at this ⊢
      have hi : ∀ i, i ≠ 0 → updI o 0 c i = o i := fun i hi => updI_ne hi
      rw [hi 1 (by omega), hi 2 (by omega), hi 3 (by omega), hi 4 (by omega), hi 5 (by omega), hi 6 (by omega), hi 7 (by omega), hi 8 (by omega), hi 9 (by omega), hi 10 (by omega), hi 11 (by omega), hi 12 (by omega), hi 16 (by omega)]
      exact this
/-- What a player sees doesn't hang on what it doesn't know. -/
theorem see_card {s : StT} {k : Nat} {o : Nat → Int} (ho : s.objs[k]? = some o) {p : Int} (hb : bitK (o 17) p = false) (c : Int) : sameS (seeS p s) (seeS p ⟨s.objs.set k (updI o 0 c), s.lists, s.pl, s.gm⟩) = true := by
  have hk := (List.getElem?_eq_some_iff.1 ho).1
  have e : s.objs[k] = o := (List.getElem?_eq_some_iff.1 ho).2
  refine sameS_of (by simp [seeS]) (fun i x y j hj => ?_) (fun _ _ => rfl) (fun _ _ => rfl) (fun _ _ => rfl)
  have hx : i < s.objs.length := by simpa [seeS] using x
  show ((s.objs.map (seeO p))[i]'(by simpa using hx)) j = (((s.objs.set k (updI o 0 c)).map (seeO p))[i]'(by simpa using hx)) j
  rw [List.getElem_map, List.getElem_map]
  by_cases hik : i = k
  · subst hik
    rw [List.getElem_set_self, e]
    have h17 : updI o 0 c 17 = o 17 := updI_ne (by omega)
    have hs : ∀ o' : Nat → Int, bitK (o' 17) p = false → seeO p o' = fun i => if i = 1 ∨ i = 2 ∨ i = 3 then o' i else 0 := fun o' h => by unfold seeO; exact if_neg (by simp [h])
    rw [hs o hb, hs (updI o 0 c) (by rw [h17]; exact hb)]
    show (if j = 1 ∨ j = 2 ∨ j = 3 then o j else 0) = if j = 1 ∨ j = 2 ∨ j = 3 then updI o 0 c j else 0
    by_cases hj : j = 1 ∨ j = 2 ∨ j = 3
    · rw [if_pos hj, if_pos hj, updI_ne (by omega)]
    · rw [if_neg hj, if_neg hj]
  · rw [List.getElem_set_ne (by omega)]
/-- The player's number as a set. -/
theorem bit_own {p : Int} (hp : p = 0 ∨ p = 1) : bitK (p + 1) p = true ∧ bitK (p + 1) (1 - p) = false := by
  rcases hp with rfl | rfl <;> decide
/-- The event by which one player knows. -/
theorem chg_one {x p : Int} (hp : p = 0 ∨ p = 1) (is : Bool) : chgK x (p + 1) is = chg1 x (p + 1) is p := by
  have h1 : ∀ y, chg1 y 1 is 1 = y := fun y => by
    unfold chg1
    exact if_neg (by rw [show bitK 1 1 = false from by decide]; simp)
  have h2 : chg1 x 2 is 0 = x := by
    unfold chg1
    exact if_neg (by rw [show bitK 2 0 = false from by decide]; simp)
  rcases hp with rfl | rfl
  · show chg1 (chg1 x 1 is 0) 1 is 1 = chg1 x 1 is 0
    exact h1 _
  · show chg1 (chg1 x 2 is 0) 2 is 1 = chg1 x 2 is 1
    rw [h2]
theorem show_none {s : StT} {k : Nat} {o : Nat → Int} (ho : s.objs[k]? = some o) {p : Int} (hp : p = 0 ∨ p = 1) (hb : bitK (o 17) p = true) : showE s.objs (k : Int) (p + 1) true = [] := by
  have hk := (List.getElem?_eq_some_iff.1 ho).1
  unfold showE
  rw [if_neg (by omega), Int.toNat_natCast, List.getD_eq_getElem?_getD, ho, Option.getD_some]
  have hc : chgK (o 17) (p + 1) true = o 17 := by rw [chg_one hp]; unfold chg1; exact if_neg (by simp [hb])
  rw [hc, if_pos rfl]
theorem show_one {s : StT} {k : Nat} {o : Nat → Int} (ho : s.objs[k]? = some o) {p : Int} (hp : p = 0 ∨ p = 1) (hb : bitK (o 17) p = false) : showE s.objs (k : Int) (p + 1) true = [⟨2, k, 17, o 17, o 17 + (p + 1), 0⟩] := by
  have hk := (List.getElem?_eq_some_iff.1 ho).1
  unfold showE
  rw [if_neg (by omega), Int.toNat_natCast, List.getD_eq_getElem?_getD, ho, Option.getD_some]
  have hc : chgK (o 17) (p + 1) true = o 17 + (p + 1) := by
    rw [chg_one hp]; unfold chg1
    rw [if_pos ⟨(bit_own hp).1, by simp [hb]⟩, if_pos rfl]
  rw [hc, if_neg (by omega)]
theorem bit_more {x p : Int} (hp : p = 0 ∨ p = 1) (hb : bitK x p = false) : bitK (x + (p + 1)) p = true ∧ bitK (x + (p + 1)) (1 - p) = bitK x (1 - p) := by
  rcases hp with rfl | rfl
  · rw [bit0] at hb
    have hb : ¬ x % 2 = 1 := by simpa using hb
    refine ⟨by rw [bit0]; simp; omega, ?_⟩
    show bitK (x + 1) 1 = bitK x 1
    rw [bit1, bit1]; congr 1; apply propext; omega
  · rw [bit1] at hb
    have hb : ¬ x / 2 % 2 = 1 := by simpa using hb
    refine ⟨by rw [bit1]; simp; omega, ?_⟩
    show bitK (x + 2) 0 = bitK x 0
    rw [bit0, bit0]; congr 1; apply propext; omega
theorem gains_one {k : Int} {x p : Int} (hp : p = 0 ∨ p = 1) (hb : bitK x p = false) : gainsE ⟨2, k, 17, x, x + (p + 1), 0⟩ = true := by
  have h := bit_more hp hb
  unfold gainsE moreK
  rcases hp with rfl | rfl
  · simp only [h.1, hb]; simp
  · simp only [h.1, hb]; simp
theorem hide_one {os : List (Nat → Int)} {k : Nat} {x p : Int} {o : Nat → Int} (hk : k < os.length) (hp : p = 0 ∨ p = 1) (hb : bitK x p = false) : showE (os.set k (updI o 17 (x + (p + 1)))) (k : Int) (p + 1) false = [⟨2, k, 17, x + (p + 1), x, 0⟩] := by
  have h := (bit_more hp hb).1
  unfold showE
  rw [if_neg (by rw [List.length_set]; omega), Int.toNat_natCast, List.getD_eq_getElem?_getD, List.getElem?_set_self hk, Option.getD_some, show updI o 17 (x + (p + 1)) 17 = x + (p + 1) from if_pos rfl]
  have hc : chgK (x + (p + 1)) (p + 1) false = x := by
    rw [chg_one hp]; unfold chg1
    rw [if_pos ⟨(bit_own hp).1, by rw [h]; simp⟩, if_neg (by simp)]; omega
  rw [hc, if_neg (by omega)]
theorem apply_show {s : StT} (h : chkS s = 0) {k : Nat} {o : Nat → Int} (ho : s.objs[k]? = some o) {p : Int} (hp : p = 0 ∨ p = 1) :
    applyS s ⟨2, k, 17, o 17, o 17 + (p + 1), 0⟩ = (⟨s.objs.set k (updI o 17 (o 17 + (p + 1))), s.lists, s.pl, s.gm⟩, 0) := by
  have hk := (List.getElem?_eq_some_iff.1 ho).1
  have h17 := chk_17 h ho
  have hg : (s.objs.getD k fun _ => 0) = o := by rw [List.getD_eq_getElem?_getD, ho, Option.getD_some]
  have hc : chkE ⟨2, k, 17, o 17, o 17 + (p + 1), 0⟩ = 0 := by rw [ck2, if_pos rfl, if_pos (by omega)]
  unfold applyS
  rw [if_neg (by rw [hc]; simp)]
  show ap2 s _ = _
  unfold ap2
  simp only [Int.toNat_natCast]
  rw [if_neg (by omega), show (17 : Int).toNat = 17 from rfl, hg, if_neg (by simp)]
  unfold setO
  rw [hg]
end Go.Proofs.YtmhabodijmnldaaDoor
