/- Layer 10: where the lists are right, each object stands once, where it says. -/
import Derived.Test.YtihbdbgmijkjmaaDoorStZone
namespace Go.Proofs.YtihbdbgmijkjmaaDoor
open Go.RowKit Ex
set_option maxRecDepth 100000
/-- Where the lists are right, each object stands once, where it says. -/
theorem zones_at {s : StT} (h : zonesB s = true) {y : Nat} (hy : y < 11) {x : Int} (hx : x ∈ s.lists y) : ∃ id : Nat, x = (id : Int) ∧ ∃ hid : id < s.objs.length, s.objs[id] 3 = (y : Int) ∧ wrongO s.objs[id] = false ∧ timesN s id 11 = 1 := by
  simp only [zonesB, Bool.and_eq_true] at h
  have h1 := List.all_eq_true.1 h.1 y (List.mem_range.2 hy)
  have h2 := List.all_eq_true.1 h1 x hx
  simp only [Bool.and_eq_true, decide_eq_true_eq] at h2
  obtain ⟨id, rfl⟩ : ∃ id : Nat, x = (id : Int) := ⟨x.toNat, by omega⟩
  have hid : id < s.objs.length := by omega
  have h3 := List.all_eq_true.1 h.2 id (List.mem_range.2 hid)
  rw [List.getD_eq_getElem?_getD, List.getElem?_eq_getElem hid, Option.getD_some] at h3
  simp only [zoneO, Bool.and_eq_true, beq_iff_eq, Bool.not_eq_true'] at h3
  refine ⟨id, rfl, hid, ?_, h3.2, h3.1.2⟩
  have h4 := List.all_eq_true.1 h3.1.1 y (List.mem_range.2 hy)
  simp only [Bool.or_eq_true, beq_iff_eq, Bool.not_eq_true'] at h4
  rcases h4 with h4 | h4
  · exact h4.symm
  · rw [List.contains_iff_mem.2 hx] at h4; cases h4
theorem zones_len {s : StT} (h : zonesB s = true) : (flatS s 11).length = s.objs.length := by
  have hS : Seen s 11 (flatS s 11) := by
    refine ⟨?_, fun x hx => ?_, fun y hy x hx => ?_⟩
    · rw [List.nodup_iff_count]
      intro x
      by_cases hx : x ∈ flatS s 11
      · obtain ⟨y, hy, hxy⟩ := flatS_mem.1 hx
        obtain ⟨id, rfl, _, _, _, ht⟩ := zones_at h hy hxy
        rw [flatS_count, ht]
        exact Nat.le_refl _
      · rw [List.count_eq_zero_of_not_mem hx]; exact Nat.zero_le _
    · obtain ⟨y, hy, hxy⟩ := flatS_mem.1 hx
      obtain ⟨id, rfl, hid, _⟩ := zones_at h hy hxy
      exact ⟨by omega, by omega⟩
    · obtain ⟨id, rfl, hid, h3, hw, _⟩ := zones_at h hy hx
      rw [Int.toNat_natCast, List.getD_eq_getElem?_getD, List.getElem?_eq_getElem hid, Option.getD_some]
      by_cases hm : mayB s.objs[id] y = true
      · exact hm
      · have := mayB_wrong (by simpa using hm) h3
        rw [hw] at this; cases this
  have := zones_seen hS
  rw [h] at this
  simpa using this.symm
theorem zones_list {s : StT} (h : zonesB s = true) {z : Nat} (hz : z < 11) : (s.lists z).length ≤ s.objs.length := by
  rw [← zones_len h]
  have : ∀ m, z < m → (s.lists z).length ≤ (flatS s m).length := by
    intro m
    induction m with
    | zero => intro h; omega
    | succ m ih =>
      intro h
      rw [flatS_succ, List.length_append]
      by_cases e : z = m
      · subst e; omega
      · have := ih (by omega); omega
  exact this 11 hz
end Go.Proofs.YtihbdbgmijkjmaaDoor
