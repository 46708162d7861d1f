/- Layer 10: the lists of a state, one behind the other: when each object stands once. -/
import Derived.Test.YtihbdbgmijkjmaaDoorStC5
namespace Go.Proofs.YtihbdbgmijkjmaaDoor
open Go.RowKit Ex
set_option maxRecDepth 100000
/-- A list without two like numbers, all of which another one has, is no longer. -/
theorem nodup_le : ∀ {a b : List Int}, a.Nodup → (∀ x ∈ a, x ∈ b) → a.length ≤ b.length
  | [], _, _, _ => by simp
  | x :: a, b, hn, hs => by
    have hxb := hs x (by simp)
    rw [List.nodup_cons] at hn
    have h1 := nodup_le (a := a) (b := b.erase x) hn.2 (fun y hy => (List.mem_erase_of_ne (fun e => by subst e; exact hn.1 hy)).2 (hs y (by simp [hy])))
    rw [List.length_erase_of_mem hxb] at h1
    have := List.length_pos_of_mem hxb
    simp only [List.length_cons]; omega
/-- All lists ahead of z, one behind the other. -/
def flatS (s : StT) (z : Nat) : List Int := (List.range z).flatMap s.lists
theorem flatS_succ (s : StT) (z : Nat) : flatS s (z + 1) = flatS s z ++ s.lists z := by simp [flatS, List.range_succ]
theorem flatS_count (s : StT) (id : Nat) : ∀ z, (flatS s z).count (id : Int) = timesN s id z
  | 0 => by simp [flatS, timesN]
  | z + 1 => by rw [flatS_succ, List.count_append, flatS_count s id z, timesN_succ]
theorem flatS_mem {s : StT} {z : Nat} {x : Int} : x ∈ flatS s z ↔ ∃ y, y < z ∧ x ∈ s.lists y := by simp [flatS]
/-- The numbers from 0 on. -/
def idsTo (n : Nat) : List Int := (List.range n).map fun i : Nat => (i : Int)
theorem idsTo_len (n : Nat) : (idsTo n).length = n := by simp [idsTo]
theorem idsTo_mem {n : Nat} {x : Int} : x ∈ idsTo n ↔ 0 ≤ x ∧ x < n := by
  simp only [idsTo, List.mem_map, List.mem_range]
  exact ⟨fun ⟨i, hi, e⟩ => by omega, fun ⟨h0, h1⟩ => ⟨x.toNat, by omega, by omega⟩⟩
theorem idsTo_nodup (n : Nat) : (idsTo n).Nodup := by
  unfold idsTo
  rw [List.nodup_iff_pairwise_ne, List.pairwise_map]
  exact List.nodup_range.imp (fun h e => h (by omega))
/-- What was seen ahead of place k of list y: no number twice, all are objects, each of which may stand there. -/
structure Seen (s : StT) (y : Nat) (l : List Int) : Prop where
  nd : l.Nodup
  into : ∀ x ∈ l, 0 ≤ x ∧ x < s.objs.length
  may : ∀ z < y, ∀ x ∈ s.lists z, mayB (s.objs.getD x.toNat fun _ => 0) z = true
theorem Seen.le {s : StT} {y : Nat} {l : List Int} (h : Seen s y l) : l.length ≤ s.objs.length := by
  have := nodup_le h.nd (b := idsTo s.objs.length) (fun x hx => idsTo_mem.2 (h.into x hx))
  rw [idsTo_len] at this; exact this
theorem mayB_zone {o : Nat → Int} {y : Nat} (h : mayB o y = true) : o 3 = (y : Int) := by
  simp only [mayB, Bool.and_eq_true, beq_iff_eq] at h; exact h.1
theorem mayB_right {o : Nat → Int} {y : Nat} (h : mayB o y = true) : wrongO o = false := by
  have h3 := mayB_zone h
  simp only [mayB, Bool.and_eq_true, beq_iff_eq] at h
  have h2 := h.2
  split at h2
  · rename_i hy
    simp only [Bool.and_eq_true, beq_iff_eq] at h2
    have e8 : (o 3 == 8) = false := by rw [h3]; simp; omega
    have em : (o 3).tmod 2 = (y : Int) % 2 := by rw [h3]; exact Int.tmod_eq_emod_of_nonneg (by omega)
    simp [wrongO, e8, em, h2.1, h2.2]
  · rename_i hy
    have l8 : decide (o 3 < 8) = false := by rw [h3]; simp; omega
    simp only [Bool.or_eq_true, bne_iff_ne, ne_eq] at h2
    rcases h2 with h2 | h2
    · have e8 : (o 3 == 8) = false := by rw [h3]; simp; omega
      simp [wrongO, l8, e8]
    · simp [wrongO, l8, h2]
theorem mayB_wrong {o : Nat → Int} {y : Nat} (h : mayB o y = false) (h3 : o 3 = (y : Int)) : wrongO o = true := by
  unfold mayB at h
  rw [h3] at h
  simp only [beq_self_eq_true, Bool.true_and] at h
  split at h
  · rename_i hy
    have em : (o 3).tmod 2 = (y : Int) % 2 := by rw [h3]; exact Int.tmod_eq_emod_of_nonneg (by omega)
    have l8 : decide (o 3 < 8) = true := by rw [h3]; simp; omega
    unfold wrongO
    rw [l8, em]
    cases h1 : (o 1 == (y : Int) % 2) <;> cases h13 : (o 13 == 0) <;> simp_all [bne]
  · rename_i hy
    simp only [Bool.or_eq_false_iff, bne_eq_false_iff_eq] at h
    obtain ⟨rfl, h13⟩ := h
    simp [wrongO, h3, h13]
/-- All was seen: the lists are right if there are as many as objects. -/
theorem zones_seen {s : StT} (h : Seen s 11 (flatS s 11)) : zonesB s = ((flatS s 11).length == s.objs.length) := by
  have hl : listsB s = true := by
    unfold listsB
    rw [List.all_eq_true]
    intro z hz
    unfold idsB
    rw [List.all_eq_true]
    intro x hx
    have := h.into x (flatS_mem.2 ⟨z, List.mem_range.1 hz, hx⟩)
    simp; omega
  have hone : ∀ id : Nat, (id : Int) ∈ flatS s 11 → timesN s id 11 = 1 := fun id hm => by
    rw [← flatS_count]
    have h1 := List.nodup_iff_count.1 h.nd (id : Int)
    have h2 := List.count_pos_iff.2 hm
    omega
  by_cases e : (flatS s 11).length = s.objs.length
  · rw [show ((flatS s 11).length == s.objs.length) = true by simpa using e]
    have hin : ∀ id : Nat, id < s.objs.length → (id : Int) ∈ flatS s 11 := fun id hid => by
      apply Classical.byContradiction
      intro hno
      have := nodup_le (a := (id : Int) :: flatS s 11) (b := idsTo s.objs.length) (List.nodup_cons.2 ⟨hno, h.nd⟩) (fun x hx => by
        rcases List.mem_cons.1 hx with hx | hx
        · subst hx; exact idsTo_mem.2 ⟨by omega, by omega⟩
        · exact idsTo_mem.2 (h.into x hx))
      rw [idsTo_len, List.length_cons] at this
      omega
    refine zonesB_good hl fun id hid _ => ?_
    have hm := hin id hid
    obtain ⟨y, hy, hmy⟩ := flatS_mem.1 hm
    have hg : (s.objs.getD (id : Int).toNat fun _ => 0) = s.objs[id] := by rw [Int.toNat_natCast, List.getD_eq_getElem?_getD, List.getElem?_eq_getElem hid]; rfl
    have hmay := h.may y hy _ hmy
    rw [hg] at hmay
    have ha : apartB s id (s.objs[id] 3) = true := apartB_good fun z hz => by
      by_cases hm2 : (id : Int) ∈ s.lists z
      · have := h.may z hz _ hm2
        rw [hg] at this
        exact .inl (mayB_zone this).symm
      · exact .inr hm2
    rw [zoneO, ha, hone id hm, mayB_right hmay]; rfl
  · rw [show ((flatS s 11).length == s.objs.length) = false by simpa using e]
    have hle := h.le
    rw [Bool.eq_false_iff]
    intro hz
    refine e (Nat.le_antisymm hle ?_)
    have hall : ∀ id : Nat, id < s.objs.length → (id : Int) ∈ flatS s 11 := fun id hid => by
      have hzo : zoneO s id s.objs[id] = true := by
        cases hq : zoneO s id s.objs[id] with
        | true => rfl
        | false => rw [zonesB_obj hid hq] at hz; cases hz
      have ht : timesN s id 11 = 1 := by
        simp only [zoneO, Bool.and_eq_true, beq_iff_eq] at hzo; exact hzo.1.2
      rw [← flatS_count] at ht
      exact List.count_pos_iff.1 (by omega)
    have := nodup_le (idsTo_nodup s.objs.length) (b := flatS s 11) (fun x hx => by
      obtain ⟨h0, h1⟩ := idsTo_mem.1 hx
      have := hall x.toNat (by omega)
      rwa [show ((x.toNat : Nat) : Int) = x by omega] at this)
    rw [idsTo_len] at this
    exact this
/-- A number stands twice. -/
theorem zones_twice {s : StT} {y k : Nat} {x : Int} (hy : y < 11) (hx : (s.lists y)[k]? = some x) (hm : x ∈ flatS s y ++ (s.lists y).take k) (h0 : 0 ≤ x) (h1 : x < s.objs.length) : zonesB s = false := by
  obtain ⟨id, rfl⟩ : ∃ id : Nat, x = (id : Int) := ⟨x.toNat, by omega⟩
  have hid : id < s.objs.length := by omega
  refine zonesB_obj hid ?_
  have h2 : 2 ≤ timesN s id 11 := by
    have hs : ∀ m, timesN s id (y + 1) ≤ timesN s id (y + 1 + m) := fun m => by
      induction m with
      | zero => exact Nat.le_refl _
      | succ m ih => exact Nat.le_trans ih (by rw [show y + 1 + (m + 1) = (y + 1 + m) + 1 by omega, timesN_succ s id (y + 1 + m)]; omega)
    have h := hs (11 - (y + 1))
    rw [show y + 1 + (11 - (y + 1)) = 11 by omega] at h
    refine Nat.le_trans ?_ h
    have hkl : k < (s.lists y).length := (List.getElem?_eq_some_iff.1 hx).1
    have hc : ((s.lists y).take (k + 1)).count (id : Int) ≤ (s.lists y).count (id : Int) := (List.take_sublist _ _).count_le _
    rw [st_count_step hkl, if_pos (List.getElem?_eq_some_iff.1 hx).2] at hc
    have hp : 0 < (flatS s y ++ (s.lists y).take k).count (id : Int) := List.count_pos_iff.2 hm
    rw [List.count_append, flatS_count] at hp
    rw [timesN_succ]
    omega
  rw [zoneO, show (timesN s id 11 == 1) = false by simp; omega]
  simp
/-- One that may not stand there. -/
theorem zones_may {s : StT} {y k : Nat} {x : Int} (hy : y < 11) (hx : (s.lists y)[k]? = some x) (h0 : 0 ≤ x) (h1 : x < s.objs.length) (hm : mayB (s.objs.getD x.toNat fun _ => 0) y = false) : zonesB s = false := by
  obtain ⟨id, rfl⟩ : ∃ id : Nat, x = (id : Int) := ⟨x.toNat, by omega⟩
  have hid : id < s.objs.length := by omega
  rw [Int.toNat_natCast, List.getD_eq_getElem?_getD, List.getElem?_eq_getElem hid, Option.getD_some] at hm
  refine zonesB_obj hid ?_
  by_cases h3 : s.objs[id] 3 = (y : Int)
  · rw [zoneO, mayB_wrong hm h3]; simp
  · rw [zoneO, apartB_bad hy (Ne.symm h3) (List.mem_of_getElem? hx)]; rfl
end Go.Proofs.YtihbdbgmijkjmaaDoor
