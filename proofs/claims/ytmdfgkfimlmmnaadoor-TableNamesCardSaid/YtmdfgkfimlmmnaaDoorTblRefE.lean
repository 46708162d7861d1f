/- Layer 8: the reference's Card: the Relics from 80 to 99. -/
import Derived.Test.YtmdfgkfimlmmnaaDoorTblRef3
namespace Go.Proofs.YtmdfgkfimlmmnaaDoor
open Go.RowKit Ex Mx
theorem FS.cost {w W : World} {P k cc j : Nat} {c : CardT} {A : Option Addr} (h : FS w P c A k cc W) (hj : j < 6) : W.cell? ⟨P, 3 + j, none⟩ = some (.int .i64 (c.cost j)) := by
  have := h.cd.cost j (.int .i64 (c.cost j))
  rw [Array.getElem?_toList, arr6] at this
  exact this (by match j, hj with
    | 0, _ => rfl
    | 1, _ => rfl
    | 2, _ => rfl
    | 3, _ => rfl
    | 4, _ => rfl
    | 5, _ => rfl)
theorem wide_two {j k : Nat} (hk : k ≤ 1000) : Wide (updI (updI noC j 1) 5 (k : Int)) := fun i hi => by
  show _ ≤ updI (updI noC j 1) 5 (k : Int) i ∧ updI (updI noC j 1) 5 (k : Int) i ≤ _
  unfold updI noC
  split
  · omega
  · split <;> simp
def abRow (r : List Int) : Prop := r.length % 4 = 0 ∧ 8 ≤ r.length ∧ r.length ≤ 400 ∧ r.getD 1 0 < 6 ∧ ∀ x ∈ r, -9223372036854775808 ≤ x ∧ x ≤ 9223372036854775807
instance (r : List Int) : Decidable (abRow r) := by unfold abRow; infer_instance
theorem relic_rows : ∀ r ∈ relicL, abRow r := by decide
set_option linter.unusedSimpArgs false in
set_option maxRecDepth 100000 in
set_option maxHeartbeats 1000000 in
theorem cardRef_relic (n : Nat) (w : World) (h0 : 80 ≤ n) (h1 : n < 100) : Calls Tryd.prog 9 #[.int .i64 (n : Int)] w (CardQ (tblC n) (.bool true) w) := by
  have d0 : decide ((n : Int) < 0) = false := by simp
  have d1 : decide ((119 : Int) < (n : Int)) = false := by simp; omega
  have d2 : decide ((n : Int) < 5) = false := by simp; omega
  have d3 : decide ((n : Int) < 10) = false := by simp; omega
  have d4 : decide ((n : Int) < 50) = false := by simp; omega
  have d5 : decide ((n : Int) < 80) = false := by simp; omega
  have d6 : decide ((n : Int) < 100) = true := by simp; omega
  go_enter Tryd.func9, Tryd.ntmps9
  go_upto_region 4 with fail
  obtain ⟨w1, hw1⟩ : ∃ w1, w1 = (w.alloc (.cells zeroD 27)).alloc (.cells lit5 27) := ⟨_, rfl⟩
  have HS1 := Lib.hid (show FS w (w.heap.size + 1) colour5 none 0 0 w1 from by
    rw [hw1]
    refine ⟨?_, ?_, ((Below.refl _ _).alloc (Nat.le_refl _) _).alloc (by simp) _, Nat.lt_succ_self _⟩
    · have := CdAt.new (w.alloc (.cells zeroD 27)) lit5
      rw [← lit5_card]
      simpa using this
    · exact (CdAt.new w zeroD).keep ((Below.refl _ _).alloc (Nat.le_refl _) _))
  rw [← hw1]
  clear hw1
  obtain ⟨P, hP⟩ : ∃ P, P = w.heap.size + 1 := ⟨_, rfl⟩
  rw [← hP] at HS1 ⊢
  clear hP
  go_upto_region 41 with fail
  clear d0 d1 d2 d3 d4 d5 d6
  obtain ⟨j, hj⟩ : ∃ j, j = n % 5 := ⟨_, rfl⟩
  obtain ⟨m, hm⟩ : ∃ m, m = n - 80 := ⟨_, rfl⟩
  obtain ⟨k, hk⟩ : ∃ k, k = m / 5 + 1 := ⟨_, rfl⟩
  have HT := Lib.hid (show tblC n = ⟨3, (j : Int), false, updI (updI noC j 1) 5 (k : Int), 0, 0, 0, [abL (relicL.getD m [])]⟩ by
    unfold tblC
    rw [if_neg (by omega), if_neg (by omega), if_neg (by omega), if_neg (by omega), if_pos h1, ← hj, ← hm, ← hk])
  have r5 : (n : Int) % 5 = (j : Int) := by omega
  have vm : IntKind.i64.wrap ((n : Int) - 80) = (m : Int) := by rw [i64_in (by omega) (by omega)]; omega
  have vk : (m : Int) / 5 = (k : Int) - 1 := by omega
  have vk2 : IntKind.i64.wrap ((k : Int) - 1 + 1) = (k : Int) := by rw [i64_in (by omega) (by omega)]; omega
  have hj5 : j < 5 := by omega
  have hm20 : m < 20 := by omega
  have hk4 : k ≤ 4 := by omega
  clear hj hm hk h0 h1
  have f0 := HS1.out.frozen 0
  have k0 : w1.cell? ⟨P, 0, none⟩ = some (.int .i64 0) := HS1.out.kind
  have f1 := HS1.out.frozen 1
  have k1 : w1.cell? ⟨P, 1, none⟩ = some (.int .i64 5) := HS1.out.colour
  go_upto_region 42 with fail
  obtain ⟨w2, hW⟩ : ∃ W, W = (w1.setCell ⟨P, 0, none⟩ (.int .i64 3)).setCell ⟨P, 1, none⟩ (.int .i64 (j : Int)) := ⟨_, rfl⟩
  have HS2 := Lib.hid (show FS w P ⟨3, (j : Int), false, noC, 0, 0, 0, []⟩ none 0 0 w2 by rw [hW]; exact ((HS1.out.set_ 0 _ (set_kind _ _ _ _ _)).set_ 1 _ (set_colour _ _ _ _ _)))
  rw [← hW]
  clear hW f0 k0 f1 k1 HS1 r5
  have k1 : w2.cell? ⟨P, 1, none⟩ = some (.int .i64 (j : Int)) := HS2.out.colour
  have kj : w2.cell? ⟨P, 3 + j, none⟩ = some (.int .i64 0) := HS2.out.cost (by omega)
  have fj := HS2.out.frozen (3 + j)
  have hS3 := HS2.out.set_ (3 + j) (.int .i64 1) (set_cost _ _ _ _ j (by omega) 1)
  have k8 : (w2.setCell ⟨P, 3 + j, none⟩ (.int .i64 1)).cell? ⟨P, 8, none⟩ = some (.int .i64 0) := by
    have h : (w2.setCell ⟨P, 3 + j, none⟩ (.int .i64 1)).cell? ⟨P, 8, none⟩ = some (.int .i64 (updI noC j 1 5)) := hS3.cost (j := 5) (by omega)
    rw [show updI noC j 1 5 = 0 by simp [updI, show ¬ 5 = j by omega]] at h
    exact h
  have f8 := hS3.frozen 8
  have g0 : (0 : Int) ≤ (j : Int) := by omega
  have g6 : (j : Int) < 6 := by omega
  go_upto_region 43 with fail
  obtain ⟨w3, hW⟩ : ∃ W, W = (w2.setCell ⟨P, 3 + j, none⟩ (.int .i64 1)).setCell ⟨P, 8, none⟩ (.int .i64 (k : Int)) := ⟨_, rfl⟩
  have HS3 := Lib.hid (show FS w P ⟨3, (j : Int), false, updI (updI noC j 1) 5 (k : Int), 0, 0, 0, []⟩ none 0 0 w3 by rw [hW]; exact (hS3.set_ 8 _ (set_cost _ _ _ _ 5 (by omega) _)))
  rw [← hW]
  clear hW k1 kj fj k8 f8 hS3 HS2 vk vk2 g0 g6
  go_wp2_with fail
  refine (relicRef_any w3).mono ?_
  rintro e w4 ⟨A4, rfl, hrows, hb4⟩
  have HS4 := Lib.hid (HS3.out.keep hb4)
  have HPw := Lib.hid HS4.out.cd.lt
  have hlen : relicL.length = 20 := rfl
  have hmem := List.getElem?_eq_getElem (show m < relicL.length by omega)
  obtain ⟨r, hr⟩ : ∃ r, r = relicL[m]'(by omega) := ⟨_, rfl⟩
  rw [← hr] at hmem
  obtain ⟨_, b, _, hcell, hNr⟩ := hrows m r hmem
  have HGet := Lib.hid (show relicL.getD m [] = r by rw [List.getD_eq_getElem?_getD, hmem]; rfl)
  obtain ⟨q1, q2, q3, q4, q5⟩ := relic_rows r (by rw [hr]; exact List.getElem_mem _)
  rw [hlen]
  have l0 : (0 : Int) ≤ (m : Int) := by omega
  have l1 : (m : Int) < 20 := by omega
  clear hr hmem hrows hlen hb4
  go_wp2_with fail
  refine (abilityRef_any r b 0 r.length r.length ((r.length - 8) / 4) w4 hNr (Nat.le_refl _) (by omega) (by omega) (getD_in q5) q4).mono ?_
  rintro e w5 ⟨ys, rfl, hra, hb5⟩
  clear hcell vm l0 l1 q1 q2 q3 q4 q5
  have hy14 := hra.size
  have HRa := Lib.hid hra
  have hS5 := HS4.out.keep hb5
  have hS6 := hS5.keep (show Below w5.heap.size w5 (w5.alloc (.cells ys 48)) from (Below.refl _ _).alloc (Nat.le_refl _) _)
  have q12 := hS6.abs
  have f12 := hS6.frozen 12
  have hPl := hS5.cd.lt
  have HS5 := Lib.hid hS5
  have HWl := Lib.hid (show w.heap.size < w4.heap.size ∧ w4.heap.size ≤ w5.heap.size from ⟨by have := HS4.out.cd.lt; have := HS4.out.lt; omega, hb5.size⟩)
  clear hra hS5 hS6 hb5
  go_upto_region 54 with (refine wpList_buildSlice_ab rfl (.tmp 176) rfl ys hy14 rfl ?_)
  obtain ⟨w6, hW⟩ : ∃ W, W = (w5.setCell ⟨P, 12, none⟩ (.slice (some ⟨w5.heap.size, 0, none⟩) 1 1)).alloc (.cells ys 48) := ⟨_, rfl⟩
  have HS9 := Lib.hid (show FS w P ⟨3, (j : Int), false, updI (updI noC j 1) 5 (k : Int), 0, 0, 0, [abL r]⟩ (some ⟨w5.heap.size, 0, none⟩) 1 1 w6 by rw [hW]; exact (HS5.out.set_ 12 _ (set_list _ _ _ _ _ _ _ _)).keep ((Below.refl _ _).alloc (Nat.le_refl _) _))
  have HG := Lib.hid (show AbAt w6 w5.heap.size ys by rw [hW]; simpa using AbAt.new (w5.setCell ⟨P, 12, none⟩ (.slice (some ⟨w5.heap.size, 0, none⟩) 1 1)) ys)
  have HKeep := Lib.hid (show ∀ b, b < w5.heap.size → b ≠ P → w6.heap[b]? = w5.heap[b]? from fun b hb hn => by
    rw [hW]
    have h1 : Below w5.heap.size (w5.setCell ⟨P, 12, none⟩ (.slice (some ⟨w5.heap.size, 0, none⟩) 1 1)) ((w5.setCell ⟨P, 12, none⟩ (.slice (some ⟨w5.heap.size, 0, none⟩) 1 1)).alloc (.cells ys 48)) := (Below.refl _ _).alloc (by simp) _
    exact (h1.block b hb).trans (heap_setCell_other w5 ⟨P, 12, none⟩ b _ (by simpa using hn)))
  rw [← hW]
  clear hW q12 f12
  have hz9 := HS9.out.z
  have hb9 := HS9.out.b
  have hP9 := HS9.out.cd
  have hlt9 := HS9.out.lt
  have hs9 := HS9.out.size
  have hsx9 : (Tryd.prog.info? 27).map (·.size) = some (cardC ⟨3, (j : Int), false, updI (updI noC j 1) 5 (k : Int), 0, 0, 0, [abL r]⟩ (some ⟨w5.heap.size, 0, none⟩) 1 1).size := by rw [hs9]; exact size13
  have h19 : (cardC ⟨3, (j : Int), false, updI (updI noC j 1) 5 (k : Int), 0, 0, 0, [abL r]⟩ (some ⟨w5.heap.size, 0, none⟩) 1 1).all (·.oneCell') = true := card_one _ _ _ _
  go_wp2_with (first
    | (refine wpList_load_row rfl 27 (.tmp 4) rfl P rfl 27 _ (0, 0) _ hP9 Tryd.underlying27 rfl hsx9 ?_)
    | (refine wpList_store_row rfl 27 (.tmp 2) (.tmp 238) rfl w.heap.size _ rfl rfl 27 zeroD hz9 hsx9 (by rw [hs9]; rfl) h19 ?_))
  refine bodyPost_ret (v := .tuple #[.agg (cardC ⟨3, (j : Int), false, updI (updI noC j 1) 5 (k : Int), 0, 0, 0, [abL r]⟩ (some ⟨w5.heap.size, 0, none⟩) 1 1), .bool true]) ?_ rfl ⟨_, rfl, ?_, below_setRow hb9 _ _ (Nat.le_refl _)⟩
  · exact results_cell_tmp (ty := 27) (p := 2) (q := 3) (by kernel_rfl) _ _ w.heap.size 27 _ (0, 0) _ rfl (setRow_heap _ _ _ _ _ _ hz9) Tryd.underlying27 rfl hsx9
  rw [HT.out, HGet.out]
  exact FS.reads HS9.out _ in_3 ⟨by show _ ≤ (j : Int); omega, by show (j : Int) ≤ _; omega⟩ (wide_two (by omega)) in_0 in_0 in_0 (Nat.le_refl _) (by unfold maxLen; omega) (one_ab HG.out (HRa.out.keep (fun b hq => HKeep.out b hq.2 (by have := HPw.out; omega)) (fun b hq => ⟨by have := HWl.out; omega, by have := HG.out.lt; omega⟩)) ⟨by have := HWl.out; omega, HG.out.lt⟩)
end Go.Proofs.YtmdfgkfimlmmnaaDoor
