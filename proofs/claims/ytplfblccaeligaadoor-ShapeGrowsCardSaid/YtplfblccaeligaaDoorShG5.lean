/- Layer 8: the reference's Card: the Sources. Layer 8: the reference's Card: the Sources of colour 5. Layer 8: the reference's Card: the Relics from 80 to 99. Layer 8: the reference's Card: Magic from 50 to 79. -/
import Derived.Test.YtplfblccaeligaaDoorTblRef3
namespace Go.Proofs.YtplfblccaeligaaDoor
open Go.RowKit Ex Mx
set_option linter.unusedSimpArgs false in
set_option maxRecDepth 100000 in
set_option maxHeartbeats 1000000 in
theorem cardRef_src (n : Nat) (w : World) (h1 : n < 5) : Calls Tryd.prog 22 #[.int .i64 (n : Int)] w (CardQ (tblC n) (.bool true) w) := by
  have d0 : decide ((n : Int) < 0) = false := by simp
  have d1 : decide ((119 : Int) < (n : Int)) = false := by simp; omega
  have d2 : decide ((n : Int) < 5) = true := by simp; omega
  go_enter Tryd.func22, Tryd.ntmps22
  go_upto_region 4 with fail
  obtain ⟨w1, hw1⟩ : ∃ w1, w1 = (w.alloc (.cells zeroD 55)).alloc (.cells lit5 55) := ⟨_, rfl⟩
  have HS1 := Lib.hid (show FS w (w.heap.size + 1) colour5 none 0 0 w1 from by
    rw [hw1]
    refine ⟨?_, ?_, ((Below.refl _ _).alloc (Nat.le_refl _) _).alloc (by simp) _, Nat.lt_succ_self _⟩
    · have := CdAt.new (w.alloc (.cells zeroD 55)) lit5
      rw [← lit5_card]
      simpa using this
    · exact (CdAt.new w zeroD).keep ((Below.refl _ _).alloc (Nat.le_refl _) _))
  rw [← hw1]
  clear hw1
  obtain ⟨P, hP⟩ : ∃ P, P = w.heap.size + 1 := ⟨_, rfl⟩
  rw [← hP] at HS1 ⊢
  clear hP
  go_upto_region 5 with fail
  clear d0 d1 d2
  have f1 := HS1.out.frozen 1
  have k1 := HS1.out.colour
  go_upto_region 6 with fail
  obtain ⟨w2, hW⟩ : ∃ W, W = w1.setCell ⟨P, 1, none⟩ (.int .i64 (n : Int)) := ⟨_, rfl⟩
  have HS2 := Lib.hid (show FS w P { colour5 with colour := (n : Int) } none 0 0 w2 by rw [hW]; exact HS1.out.set_ 1 _ (set_colour _ _ _ _ _))
  rw [← hW]
  clear hW f1 k1 HS1
  go_wp2_with fail
  refine (giveRef_any 1 (n : Int) w2).mono ?_
  rintro e w3 ⟨rfl, hb3⟩
  have hS3 := HS2.out.keep hb3
  obtain ⟨ys, hys⟩ : ∃ ys, ys = abC (giveA 1 (n : Int)) (evC 15 1 (n : Int) 0 none 0 0) := ⟨_, rfl⟩
  have hra : ∀ (Q : Nat → Prop) (W : World), ReadsAQ Q W 2 ys (giveA 1 (n : Int)) := fun Q W => by
    rw [hys]; exact flat_reads 6 0 15 1 n 0 noC true (by exact ⟨by decide, by decide⟩) wide_no in_0 (by exact ⟨by decide, by decide⟩) in_1 ⟨by omega, by omega⟩ in_0
  have HRa := Lib.hid hra
  rw [← hys]
  have hy14 : ys.size = 14 := (hra (fun _ => True) w).size
  have hb4 : Below w3.heap.size w3 (w3.alloc (.cells ys 79)) := (Below.refl _ _).alloc (Nat.le_refl _) _
  have hS4 := hS3.keep hb4
  have q12 := hS4.abs
  have f12 := hS4.frozen 12
  have hG := AbAt.new w3 ys
  have hPl := hS3.cd.lt
  clear hys hra
  go_upto_region 54 with (refine wpList_buildSlice_ab rfl (.tmp 22) rfl ys hy14 rfl ?_)
  have hwl : w.heap.size < w3.heap.size := by have := hS3.lt; omega
  have HS3 := Lib.hid hS3
  clear hS3 hS4 hG hb3 hb4
  obtain ⟨w5, hW⟩ : ∃ W, W = (w3.setCell ⟨P, 12, none⟩ (.slice (some ⟨w3.heap.size, 0, none⟩) 1 1)).alloc (.cells ys 79) := ⟨_, rfl⟩
  have HS5 := Lib.hid (show FS w P ⟨0, (n : Int), false, noC, 0, 0, 0, [giveA 1 (n : Int)]⟩ (some ⟨w3.heap.size, 0, none⟩) 1 1 w5 by rw [hW]; exact (HS3.out.set_ 12 _ (set_list _ _ _ _ _ _ _ _)).keep ((Below.refl _ _).alloc (Nat.le_refl _) _))
  have HG := Lib.hid (show AbAt w5 w3.heap.size ys by rw [hW]; simpa using AbAt.new (w3.setCell ⟨P, 12, none⟩ (.slice (some ⟨w3.heap.size, 0, none⟩) 1 1)) ys)
  rw [← hW]
  clear hW q12 f12 HS3
  have hz9 := HS5.out.z
  have hb9 := HS5.out.b
  have hP9 := HS5.out.cd
  have hlt9 := HS5.out.lt
  have hs9 := HS5.out.size
  have hsx9 : (Tryd.prog.info? 55).map (·.size) = some (cardC ⟨0, (n : Int), false, noC, 0, 0, 0, [giveA 1 (n : Int)]⟩ (some ⟨w3.heap.size, 0, none⟩) 1 1).size := by rw [hs9]; exact size13
  have h19 : (cardC ⟨0, (n : Int), false, noC, 0, 0, 0, [giveA 1 (n : Int)]⟩ (some ⟨w3.heap.size, 0, none⟩) 1 1).all (·.oneCell') = true := card_one _ _ _ _
  go_wp2_with (first
    | (refine wpList_load_row rfl 55 (.tmp 4) rfl P rfl 55 _ (0, 0) _ hP9 Tryd.underlying55 rfl hsx9 ?_)
    | (refine wpList_store_row rfl 55 (.tmp 2) (.tmp 238) rfl w.heap.size _ rfl rfl 55 zeroD hz9 hsx9 (by rw [hs9]; rfl) h19 ?_))
  refine bodyPost_ret (v := .tuple #[.agg (cardC ⟨0, (n : Int), false, noC, 0, 0, 0, [giveA 1 (n : Int)]⟩ (some ⟨w3.heap.size, 0, none⟩) 1 1), .bool true]) ?_ rfl ⟨_, rfl, ?_, below_setRow hb9 _ _ (Nat.le_refl _)⟩
  · exact results_cell_tmp (ty := 55) (p := 2) (q := 3) (by kernel_rfl) _ _ w.heap.size 55 _ (0, 0) _ rfl (setRow_heap _ _ _ _ _ _ hz9) Tryd.underlying55 rfl hsx9
  rw [show tblC n = ⟨0, (n : Int), false, noC, 0, 0, 0, [giveA 1 (n : Int)]⟩ by unfold tblC; rw [if_pos h1]]
  exact FS.reads HS5.out _ in_0 ⟨by show _ ≤ (n : Int); omega, by show (n : Int) ≤ _; omega⟩ wide_no in_0 in_0 in_0 (Nat.le_refl _) (by unfold maxLen; omega) (one_ab HG.out (HRa.out _ _) ⟨hwl, HG.out.lt⟩)
end Go.Proofs.YtplfblccaeligaaDoor
namespace Go.Proofs.YtplfblccaeligaaDoor
open Go.RowKit Ex Mx
def give5 (q : Nat) : Int := [1, 1, 2, 2, 3].getD q 0
theorem give5_in (q : Nat) : In64 (give5 q) := getD_in (by decide) q
set_option linter.unusedSimpArgs false in
set_option maxRecDepth 100000 in
set_option maxHeartbeats 1000000 in
theorem cardRef_src5 (n : Nat) (w : World) (h0 : 5 ≤ n) (h1 : n < 10) : Calls Tryd.prog 22 #[.int .i64 (n : Int)] w (CardQ (tblC n) (.bool true) w) := by
  have d0 : decide ((n : Int) < 0) = false := by simp
  have d1 : decide ((119 : Int) < (n : Int)) = false := by simp; omega
  have d2 : decide ((n : Int) < 5) = false := by simp; omega
  have d3 : decide ((n : Int) < 10) = true := by simp; omega
  go_enter Tryd.func22, Tryd.ntmps22
  go_upto_region 4 with fail
  obtain ⟨w1, hw1⟩ : ∃ w1, w1 = (w.alloc (.cells zeroD 55)).alloc (.cells lit5 55) := ⟨_, rfl⟩
  have HS1 := Lib.hid (show FS w (w.heap.size + 1) colour5 none 0 0 w1 from by
    rw [hw1]
    refine ⟨?_, ?_, ((Below.refl _ _).alloc (Nat.le_refl _) _).alloc (by simp) _, Nat.lt_succ_self _⟩
    · have := CdAt.new (w.alloc (.cells zeroD 55)) lit5
      rw [← lit5_card]
      simpa using this
    · exact (CdAt.new w zeroD).keep ((Below.refl _ _).alloc (Nat.le_refl _) _))
  rw [← hw1]
  clear hw1
  obtain ⟨P, hP⟩ : ∃ P, P = w.heap.size + 1 := ⟨_, rfl⟩
  rw [← hP] at HS1 ⊢
  clear hP
  obtain ⟨p, hp⟩ : ∃ p, p = n - 4 := ⟨_, rfl⟩
  obtain ⟨q, hq⟩ : ∃ q, q = n - 5 := ⟨_, rfl⟩
  have HT := Lib.hid (show tblC n = ⟨0, 5, false, noC, 0, 0, 0, [⟨2, noC, false, 0, .node 3 (p : Int) 0 0 []⟩, giveA (give5 q) 5]⟩ by
    unfold tblC; rw [if_neg (by omega), if_pos h1, ← hp, ← hq]; rfl)
  have vp : IntKind.i64.wrap ((n : Int) - 4) = (p : Int) := by rw [i64_in (by omega) (by omega)]; omega
  have vq : IntKind.i64.wrap ((n : Int) - 5) = (q : Int) := by rw [i64_in (by omega) (by omega)]; omega
  have hq5 : q < 5 := by omega
  have hp5 : p ≤ 5 := by omega
  have l0 : (0 : Int) ≤ (q : Int) := by omega
  have l1 : (q : Int) < 5 := by omega
  go_upto_region 8 with fail
  clear d0 d1 d2 d3 hp hq h0 h1
  go_wp2_with (refine wpList_lits rfl rfl (fun ρ h => by simp only [List.map_toArray, List.map_cons, List.map_nil, h, litV]) rfl (fun _ => by kernel_rfl) ?_; intro w' hb' hc'; have HS2 := Lib.hid (HS1.out.keep hb'); have q0 : w'.cell? ⟨w1.heap.size, q, none⟩ = some (.int .i64 (give5 q)) := hc' q hq5; clear hc')
  refine (giveRef_any (give5 q) 5 w').mono ?_
  rintro e w3 ⟨rfl, hb3⟩
  have hS3 := HS2.out.keep hb3
  obtain ⟨v, hv⟩ : ∃ v, v = give5 q := ⟨_, rfl⟩
  have HV := Lib.hid hv
  have HVi := Lib.hid (show In64 v by rw [hv]; exact give5_in q)
  rw [← hv, show abC (giveA v 5) (evC 15 v 5 0 none 0 0) = #[.int .i64 6, .int .i64 0, .int .i64 0, .int .i64 0, .int .i64 0, .int .i64 0, .int .i64 0, .bool true, .int .i64 0, .int .i64 15, .int .i64 v, .int .i64 5, .int .i64 0, .slice none 0 0] from abC14 (giveA v 5) _ _ _ _ _]
  have hS4 := hS3.keep (show Below w3.heap.size w3 (w3.alloc (.cells #[.int .i64 2, .int .i64 0, .int .i64 0, .int .i64 0, .int .i64 0, .int .i64 0, .int .i64 0, .bool false, .int .i64 0, .int .i64 3, .int .i64 (p : Int), .int .i64 0, .int .i64 0, .slice none 0 0, .int .i64 6, .int .i64 0, .int .i64 0, .int .i64 0, .int .i64 0, .int .i64 0, .int .i64 0, .bool true, .int .i64 0, .int .i64 15, .int .i64 v, .int .i64 5, .int .i64 0, .slice none 0 0] 79)) from (Below.refl _ _).alloc (Nat.le_refl _) _)
  have q12 := hS4.abs
  have f12 := hS4.frozen 12
  have HPl := Lib.hid (show P < w3.heap.size ∧ w.heap.size < w3.heap.size by have := hS3.cd.lt; have := hS3.lt; omega)
  have HS3 := Lib.hid hS3
  clear hv q0 vq l0 l1 hS3 hS4
  go_upto_region 54 with fail
  obtain ⟨w5, hW⟩ : ∃ W, W = (w3.alloc (.cells #[.int .i64 2, .int .i64 0, .int .i64 0, .int .i64 0, .int .i64 0, .int .i64 0, .int .i64 0, .bool false, .int .i64 0, .int .i64 3, .int .i64 (p : Int), .int .i64 0, .int .i64 0, .slice none 0 0, .int .i64 6, .int .i64 0, .int .i64 0, .int .i64 0, .int .i64 0, .int .i64 0, .int .i64 0, .bool true, .int .i64 0, .int .i64 15, .int .i64 v, .int .i64 5, .int .i64 0, .slice none 0 0] 79)).setCell ⟨P, 12, none⟩ (.slice (some ⟨w3.heap.size, 0, none⟩) 2 2) := ⟨_, rfl⟩
  have HS5 := Lib.hid (show FS w P ⟨0, 5, false, noC, 0, 0, 0, [⟨2, noC, false, 0, .node 3 (p : Int) 0 0 []⟩, giveA v 5]⟩ (some ⟨w3.heap.size, 0, none⟩) 2 2 w5 by
    rw [hW]; exact (HS3.out.keep ((Below.refl _ _).alloc (Nat.le_refl _) _)).set_ 12 _ (set_list _ _ _ _ _ _ _ _))
  have HG := Lib.hid (show AbAt w5 w3.heap.size (#[.int .i64 2, .int .i64 0, .int .i64 0, .int .i64 0, .int .i64 0, .int .i64 0, .int .i64 0, .bool false, .int .i64 0, .int .i64 3, .int .i64 (p : Int), .int .i64 0, .int .i64 0, .slice none 0 0] ++ #[.int .i64 6, .int .i64 0, .int .i64 0, .int .i64 0, .int .i64 0, .int .i64 0, .int .i64 0, .bool true, .int .i64 0, .int .i64 15, .int .i64 v, .int .i64 5, .int .i64 0, .slice none 0 0]) by
    rw [hW]; exact (heap_setCell_other _ _ _ _ (by have := HPl.out; simp; omega)).trans (AbAt.new w3 #[.int .i64 2, .int .i64 0, .int .i64 0, .int .i64 0, .int .i64 0, .int .i64 0, .int .i64 0, .bool false, .int .i64 0, .int .i64 3, .int .i64 (p : Int), .int .i64 0, .int .i64 0, .slice none 0 0, .int .i64 6, .int .i64 0, .int .i64 0, .int .i64 0, .int .i64 0, .int .i64 0, .int .i64 0, .bool true, .int .i64 0, .int .i64 15, .int .i64 v, .int .i64 5, .int .i64 0, .slice none 0 0]))
  rw [← hW]
  clear hW q12 f12 HS3
  have hz9 := HS5.out.z
  have hb9 := HS5.out.b
  have hP9 := HS5.out.cd
  have hlt9 := HS5.out.lt
  have hs9 := HS5.out.size
  have hsx9 : (Tryd.prog.info? 55).map (·.size) = some (cardC ⟨0, 5, false, noC, 0, 0, 0, [⟨2, noC, false, 0, .node 3 (p : Int) 0 0 []⟩, giveA v 5]⟩ (some ⟨w3.heap.size, 0, none⟩) 2 2).size := by rw [hs9]; exact size13
  have h19 : (cardC ⟨0, 5, false, noC, 0, 0, 0, [⟨2, noC, false, 0, .node 3 (p : Int) 0 0 []⟩, giveA v 5]⟩ (some ⟨w3.heap.size, 0, none⟩) 2 2).all (·.oneCell') = true := card_one _ _ _ _
  go_wp2_with (first
    | (refine wpList_load_row rfl 55 (.tmp 4) rfl P rfl 55 _ (0, 0) _ hP9 Tryd.underlying55 rfl hsx9 ?_)
    | (refine wpList_store_row rfl 55 (.tmp 2) (.tmp 238) rfl w.heap.size _ rfl rfl 55 zeroD hz9 hsx9 (by rw [hs9]; rfl) h19 ?_))
  refine bodyPost_ret (v := .tuple #[.agg (cardC ⟨0, 5, false, noC, 0, 0, 0, [⟨2, noC, false, 0, .node 3 (p : Int) 0 0 []⟩, giveA v 5]⟩ (some ⟨w3.heap.size, 0, none⟩) 2 2), .bool true]) ?_ rfl ⟨_, rfl, ?_, below_setRow hb9 _ _ (Nat.le_refl _)⟩
  · exact results_cell_tmp (ty := 55) (p := 2) (q := 3) (by kernel_rfl) _ _ w.heap.size 55 _ (0, 0) _ rfl (setRow_heap _ _ _ _ _ _ hz9) Tryd.underlying55 rfl hsx9
  rw [HT.out, ← HV.out]
  have e1 : #[.int .i64 2, .int .i64 0, .int .i64 0, .int .i64 0, .int .i64 0, .int .i64 0, .int .i64 0, .bool false, .int .i64 0, .int .i64 3, .int .i64 (p : Int), .int .i64 0, .int .i64 0, .slice none 0 0] = abC ⟨2, noC, false, 0, .node 3 (p : Int) 0 0 []⟩ (evC 3 (p : Int) 0 0 none 0 0) := (abC14 ⟨2, noC, false, 0, .node 3 (p : Int) 0 0 []⟩ _ _ _ _ _).symm
  have e2 : #[.int .i64 6, .int .i64 0, .int .i64 0, .int .i64 0, .int .i64 0, .int .i64 0, .int .i64 0, .bool true, .int .i64 0, .int .i64 15, .int .i64 v, .int .i64 5, .int .i64 0, .slice none 0 0] = abC (giveA v 5) (evC 15 v 5 0 none 0 0) := (abC14 (giveA v 5) _ _ _ _ _).symm
  have hG := HG.out
  rw [e1, e2] at hG
  exact FS.reads HS5.out _ in_0 in_5 wide_no in_0 in_0 in_0 (Nat.le_refl _) (by unfold maxLen; omega)
    (two_ab hG (flat_reads 2 0 3 p 0 0 noC false in_2 wide_no in_0 in_3 ⟨by omega, by omega⟩ in_0 in_0) (flat_reads 6 0 15 v 5 0 noC true ⟨by decide, by decide⟩ wide_no in_0 ⟨by decide, by decide⟩ HVi.out in_5 in_0) ⟨HPl.out.2, HG.out.lt⟩)
end Go.Proofs.YtplfblccaeligaaDoor
namespace Go.Proofs.YtplfblccaeligaaDoor
open Go.RowKit Ex Mx
theorem FS.cost {w W : World} {P k cc j : Nat} {c : CardT} {A : Option Addr} (h : FS w P c A k cc W) (hj : j < 6) : W.cell? ⟨P, 3 + j, none⟩ = some (.int .i64 (c.cost j)) := by
  have := h.cd.cost j (.int .i64 (c.cost j))
  rw [Array.getElem?_toList, arr6] at this
  exact this (by match j, hj with
    | 0, _ => rfl
    | 1, _ => rfl
    | 2, _ => rfl
    | 3, _ => rfl
    | 4, _ => rfl
    | 5, _ => rfl)
theorem wide_two {j k : Nat} (hk : k ≤ 1000) : Wide (updI (updI noC j 1) 5 (k : Int)) := fun i hi => by
  show _ ≤ updI (updI noC j 1) 5 (k : Int) i ∧ updI (updI noC j 1) 5 (k : Int) i ≤ _
  unfold updI noC
  split
  · omega
  · split <;> simp
def abRow (r : List Int) : Prop := r.length % 4 = 0 ∧ 8 ≤ r.length ∧ r.length ≤ 400 ∧ r.getD 1 0 < 6 ∧ ∀ x ∈ r, -9223372036854775808 ≤ x ∧ x ≤ 9223372036854775807
instance (r : List Int) : Decidable (abRow r) := by unfold abRow; infer_instance
theorem relic_rows : ∀ r ∈ relicL, abRow r := by decide
set_option linter.unusedSimpArgs false in
set_option maxRecDepth 100000 in
set_option maxHeartbeats 1000000 in
theorem cardRef_relic (n : Nat) (w : World) (h0 : 80 ≤ n) (h1 : n < 100) : Calls Tryd.prog 22 #[.int .i64 (n : Int)] w (CardQ (tblC n) (.bool true) w) := by
  have d0 : decide ((n : Int) < 0) = false := by simp
  have d1 : decide ((119 : Int) < (n : Int)) = false := by simp; omega
  have d2 : decide ((n : Int) < 5) = false := by simp; omega
  have d3 : decide ((n : Int) < 10) = false := by simp; omega
  have d4 : decide ((n : Int) < 50) = false := by simp; omega
  have d5 : decide ((n : Int) < 80) = false := by simp; omega
  have d6 : decide ((n : Int) < 100) = true := by simp; omega
  go_enter Tryd.func22, Tryd.ntmps22
  go_upto_region 4 with fail
  obtain ⟨w1, hw1⟩ : ∃ w1, w1 = (w.alloc (.cells zeroD 55)).alloc (.cells lit5 55) := ⟨_, rfl⟩
  have HS1 := Lib.hid (show FS w (w.heap.size + 1) colour5 none 0 0 w1 from by
    rw [hw1]
    refine ⟨?_, ?_, ((Below.refl _ _).alloc (Nat.le_refl _) _).alloc (by simp) _, Nat.lt_succ_self _⟩
    · have := CdAt.new (w.alloc (.cells zeroD 55)) lit5
      rw [← lit5_card]
      simpa using this
    · exact (CdAt.new w zeroD).keep ((Below.refl _ _).alloc (Nat.le_refl _) _))
  rw [← hw1]
  clear hw1
  obtain ⟨P, hP⟩ : ∃ P, P = w.heap.size + 1 := ⟨_, rfl⟩
  rw [← hP] at HS1 ⊢
  clear hP
  go_upto_region 41 with fail
  clear d0 d1 d2 d3 d4 d5 d6
  obtain ⟨j, hj⟩ : ∃ j, j = n % 5 := ⟨_, rfl⟩
  obtain ⟨m, hm⟩ : ∃ m, m = n - 80 := ⟨_, rfl⟩
  obtain ⟨k, hk⟩ : ∃ k, k = m / 5 + 1 := ⟨_, rfl⟩
  have HT := Lib.hid (show tblC n = ⟨3, (j : Int), false, updI (updI noC j 1) 5 (k : Int), 0, 0, 0, [abL (relicL.getD m [])]⟩ by
    unfold tblC
    rw [if_neg (by omega), if_neg (by omega), if_neg (by omega), if_neg (by omega), if_pos h1, ← hj, ← hm, ← hk])
  have r5 : (n : Int) % 5 = (j : Int) := by omega
  have vm : IntKind.i64.wrap ((n : Int) - 80) = (m : Int) := by rw [i64_in (by omega) (by omega)]; omega
  have vk : (m : Int) / 5 = (k : Int) - 1 := by omega
  have vk2 : IntKind.i64.wrap ((k : Int) - 1 + 1) = (k : Int) := by rw [i64_in (by omega) (by omega)]; omega
  have hj5 : j < 5 := by omega
  have hm20 : m < 20 := by omega
  have hk4 : k ≤ 4 := by omega
  clear hj hm hk h0 h1
  have f0 := HS1.out.frozen 0
  have k0 : w1.cell? ⟨P, 0, none⟩ = some (.int .i64 0) := HS1.out.kind
  have f1 := HS1.out.frozen 1
  have k1 : w1.cell? ⟨P, 1, none⟩ = some (.int .i64 5) := HS1.out.colour
  go_upto_region 42 with fail
  obtain ⟨w2, hW⟩ : ∃ W, W = (w1.setCell ⟨P, 0, none⟩ (.int .i64 3)).setCell ⟨P, 1, none⟩ (.int .i64 (j : Int)) := ⟨_, rfl⟩
  have HS2 := Lib.hid (show FS w P ⟨3, (j : Int), false, noC, 0, 0, 0, []⟩ none 0 0 w2 by rw [hW]; exact ((HS1.out.set_ 0 _ (set_kind _ _ _ _ _)).set_ 1 _ (set_colour _ _ _ _ _)))
  rw [← hW]
  clear hW f0 k0 f1 k1 HS1 r5
  have k1 : w2.cell? ⟨P, 1, none⟩ = some (.int .i64 (j : Int)) := HS2.out.colour
  have kj : w2.cell? ⟨P, 3 + j, none⟩ = some (.int .i64 0) := HS2.out.cost (by omega)
  have fj := HS2.out.frozen (3 + j)
  have hS3 := HS2.out.set_ (3 + j) (.int .i64 1) (set_cost _ _ _ _ j (by omega) 1)
  have k8 : (w2.setCell ⟨P, 3 + j, none⟩ (.int .i64 1)).cell? ⟨P, 8, none⟩ = some (.int .i64 0) := by
    have h : (w2.setCell ⟨P, 3 + j, none⟩ (.int .i64 1)).cell? ⟨P, 8, none⟩ = some (.int .i64 (updI noC j 1 5)) := hS3.cost (j := 5) (by omega)
    rw [show updI noC j 1 5 = 0 by simp [updI, show ¬ 5 = j by omega]] at h
    exact h
  have f8 := hS3.frozen 8
  have g0 : (0 : Int) ≤ (j : Int) := by omega
  have g6 : (j : Int) < 6 := by omega
  go_upto_region 43 with fail
  obtain ⟨w3, hW⟩ : ∃ W, W = (w2.setCell ⟨P, 3 + j, none⟩ (.int .i64 1)).setCell ⟨P, 8, none⟩ (.int .i64 (k : Int)) := ⟨_, rfl⟩
  have HS3 := Lib.hid (show FS w P ⟨3, (j : Int), false, updI (updI noC j 1) 5 (k : Int), 0, 0, 0, []⟩ none 0 0 w3 by rw [hW]; exact (hS3.set_ 8 _ (set_cost _ _ _ _ 5 (by omega) _)))
  rw [← hW]
  clear hW k1 kj fj k8 f8 hS3 HS2 vk vk2 g0 g6
  go_wp2_with fail
  refine (relicRef_any w3).mono ?_
  rintro e w4 ⟨A4, rfl, hrows, hb4⟩
  have HS4 := Lib.hid (HS3.out.keep hb4)
  have HPw := Lib.hid HS4.out.cd.lt
  have hlen : relicL.length = 20 := rfl
  have hmem := List.getElem?_eq_getElem (show m < relicL.length by omega)
  obtain ⟨r, hr⟩ : ∃ r, r = relicL[m]'(by omega) := ⟨_, rfl⟩
  rw [← hr] at hmem
  obtain ⟨_, b, _, hcell, hNr⟩ := hrows m r hmem
  have HGet := Lib.hid (show relicL.getD m [] = r by rw [List.getD_eq_getElem?_getD, hmem]; rfl)
  obtain ⟨q1, q2, q3, q4, q5⟩ := relic_rows r (by rw [hr]; exact List.getElem_mem _)
  rw [hlen]
  have l0 : (0 : Int) ≤ (m : Int) := by omega
  have l1 : (m : Int) < 20 := by omega
  clear hr hmem hrows hlen hb4
  go_wp2_with fail
  refine (abilityRef_any r b 0 r.length r.length ((r.length - 8) / 4) w4 hNr (Nat.le_refl _) (by omega) (by omega) (getD_in q5) q4).mono ?_
  rintro e w5 ⟨ys, rfl, hra, hb5⟩
  clear hcell vm l0 l1 q1 q2 q3 q4 q5
  have hy14 := hra.size
  have HRa := Lib.hid hra
  have hS5 := HS4.out.keep hb5
  have hS6 := hS5.keep (show Below w5.heap.size w5 (w5.alloc (.cells ys 79)) from (Below.refl _ _).alloc (Nat.le_refl _) _)
  have q12 := hS6.abs
  have f12 := hS6.frozen 12
  have hPl := hS5.cd.lt
  have HS5 := Lib.hid hS5
  have HWl := Lib.hid (show w.heap.size < w4.heap.size ∧ w4.heap.size ≤ w5.heap.size from ⟨by have := HS4.out.cd.lt; have := HS4.out.lt; omega, hb5.size⟩)
  clear hra hS5 hS6 hb5
  go_upto_region 54 with (refine wpList_buildSlice_ab rfl (.tmp 176) rfl ys hy14 rfl ?_)
  obtain ⟨w6, hW⟩ : ∃ W, W = (w5.setCell ⟨P, 12, none⟩ (.slice (some ⟨w5.heap.size, 0, none⟩) 1 1)).alloc (.cells ys 79) := ⟨_, rfl⟩
  have HS9 := Lib.hid (show FS w P ⟨3, (j : Int), false, updI (updI noC j 1) 5 (k : Int), 0, 0, 0, [abL r]⟩ (some ⟨w5.heap.size, 0, none⟩) 1 1 w6 by rw [hW]; exact (HS5.out.set_ 12 _ (set_list _ _ _ _ _ _ _ _)).keep ((Below.refl _ _).alloc (Nat.le_refl _) _))
  have HG := Lib.hid (show AbAt w6 w5.heap.size ys by rw [hW]; simpa using AbAt.new (w5.setCell ⟨P, 12, none⟩ (.slice (some ⟨w5.heap.size, 0, none⟩) 1 1)) ys)
  have HKeep := Lib.hid (show ∀ b, b < w5.heap.size → b ≠ P → w6.heap[b]? = w5.heap[b]? from fun b hb hn => by
    rw [hW]
    have h1 : Below w5.heap.size (w5.setCell ⟨P, 12, none⟩ (.slice (some ⟨w5.heap.size, 0, none⟩) 1 1)) ((w5.setCell ⟨P, 12, none⟩ (.slice (some ⟨w5.heap.size, 0, none⟩) 1 1)).alloc (.cells ys 79)) := (Below.refl _ _).alloc (by simp) _
    exact (h1.block b hb).trans (heap_setCell_other w5 ⟨P, 12, none⟩ b _ (by simpa using hn)))
  rw [← hW]
  clear hW q12 f12
  have hz9 := HS9.out.z
  have hb9 := HS9.out.b
  have hP9 := HS9.out.cd
  have hlt9 := HS9.out.lt
  have hs9 := HS9.out.size
  have hsx9 : (Tryd.prog.info? 55).map (·.size) = some (cardC ⟨3, (j : Int), false, updI (updI noC j 1) 5 (k : Int), 0, 0, 0, [abL r]⟩ (some ⟨w5.heap.size, 0, none⟩) 1 1).size := by rw [hs9]; exact size13
  have h19 : (cardC ⟨3, (j : Int), false, updI (updI noC j 1) 5 (k : Int), 0, 0, 0, [abL r]⟩ (some ⟨w5.heap.size, 0, none⟩) 1 1).all (·.oneCell') = true := card_one _ _ _ _
  go_wp2_with (first
    | (refine wpList_load_row rfl 55 (.tmp 4) rfl P rfl 55 _ (0, 0) _ hP9 Tryd.underlying55 rfl hsx9 ?_)
    | (refine wpList_store_row rfl 55 (.tmp 2) (.tmp 238) rfl w.heap.size _ rfl rfl 55 zeroD hz9 hsx9 (by rw [hs9]; rfl) h19 ?_))
  refine bodyPost_ret (v := .tuple #[.agg (cardC ⟨3, (j : Int), false, updI (updI noC j 1) 5 (k : Int), 0, 0, 0, [abL r]⟩ (some ⟨w5.heap.size, 0, none⟩) 1 1), .bool true]) ?_ rfl ⟨_, rfl, ?_, below_setRow hb9 _ _ (Nat.le_refl _)⟩
  · exact results_cell_tmp (ty := 55) (p := 2) (q := 3) (by kernel_rfl) _ _ w.heap.size 55 _ (0, 0) _ rfl (setRow_heap _ _ _ _ _ _ hz9) Tryd.underlying55 rfl hsx9
  rw [HT.out, HGet.out]
  exact FS.reads HS9.out _ in_3 ⟨by show _ ≤ (j : Int); omega, by show (j : Int) ≤ _; omega⟩ (wide_two (by omega)) in_0 in_0 in_0 (Nat.le_refl _) (by unfold maxLen; omega) (one_ab HG.out (HRa.out.keep (fun b hq => HKeep.out b hq.2 (by have := HPw.out; omega)) (fun b hq => ⟨by have := HWl.out; omega, by have := HG.out.lt; omega⟩)) ⟨by have := HWl.out; omega, HG.out.lt⟩)
end Go.Proofs.YtplfblccaeligaaDoor
namespace Go.Proofs.YtplfblccaeligaaDoor
open Go.RowKit Ex Mx
def mgRow (r : List Int) : Prop := r.length % 4 = 1 ∧ 5 ≤ r.length ∧ r.length ≤ 400 ∧ ∀ x ∈ r, -9223372036854775808 ≤ x ∧ x ≤ 9223372036854775807
instance (r : List Int) : Decidable (mgRow r) := by unfold mgRow; infer_instance
theorem magic_rows : ∀ r ∈ magicL, mgRow r := by decide
theorem wp_buildSlice_ab {o : Oper} {a : Act} {w : World} {K : Act → World → Prop} {Q : Exit → Act → World → Prop} (x : Operand) (ho : o.op = .buildSlice 53 1 #[(0, x)])
    (cs : Array Value) (hs : cs.size = 14) (hx : a.eval x = .agg cs) (hK : K (a.put o.dst (.slice (some ⟨w.heap.size, 0, none⟩) 1 1)) (w.alloc (.cells cs 79))) : o.wp Tryd.prog a w K Q := by
  unfold Oper.wp
  simp [execOp, ho, hx, buildSlice_ab cs hs, Result.andThen]
  exact hK
/-- A row within a row. -/
theorem nums_cut {w : World} {B b f n : Nat} {row : List Int} (h : Nums .i64 w B (some ⟨b, f, none⟩) n row) (k : Nat) : Nums .i64 w B (some ⟨b, f + k, none⟩) (n - k) (row.drop k) := ⟨by rw [List.length_drop, h.len], fun i u hu => by
  rw [List.getElem?_drop] at hu
  obtain ⟨a', e, hb, hc⟩ := h.2 _ _ hu
  injection e with e
  subst e
  exact ⟨_, rfl, hb, by rw [Addr.add_mid] at hc ⊢; rw [Nat.add_assoc]; exact hc⟩⟩
theorem nums_cell {w : World} {B b f n : Nat} {row : List Int} (h : Nums .i64 w B (some ⟨b, f, none⟩) n row) (i : Nat) (hi : i < n) : b < B ∧ w.cell? ⟨b, f + i, none⟩ = some (.int .i64 (row.getD i 0)) := by
  obtain ⟨a', e, hb, hc⟩ := h.2 i _ (get_getD (by rw [h.len]; exact hi))
  injection e with e
  subst e
  rw [Addr.add_mid] at hc
  exact ⟨hb, hc⟩
theorem drop_getD (row : List Int) (k i : Nat) : (row.drop k).getD i 0 = row.getD (k + i) 0 := by
  rw [List.getD_eq_getElem?_getD, List.getD_eq_getElem?_getD, List.getElem?_drop]
theorem nums_block {w w' : World} {B b f n : Nat} {row : List Int} (h : Nums .i64 w B (some ⟨b, f, none⟩) n row) (hb : w'.heap[b]? = w.heap[b]?) (hs : B ≤ w'.heap.size) : Nums .i64 w' w'.heap.size (some ⟨b, f, none⟩) n row := ⟨h.1, fun i u hu => by
  obtain ⟨a', e, hlt, hc⟩ := h.2 i u hu
  injection e with e
  subst e
  rw [Addr.add_mid] at hc
  exact ⟨_, rfl, Nat.lt_of_lt_of_le hlt hs, by rw [Addr.add_mid, World.cell?_of_block hb]; exact hc⟩⟩
set_option linter.unusedSimpArgs false in
set_option maxRecDepth 100000 in
set_option maxHeartbeats 1000000 in
theorem cardRef_magic (n : Nat) (w : World) (h0 : 50 ≤ n) (h1 : n < 80) : Calls Tryd.prog 22 #[.int .i64 (n : Int)] w (CardQ (tblC n) (.bool true) w) := by
  have d0 : decide ((n : Int) < 0) = false := by simp
  have d1 : decide ((119 : Int) < (n : Int)) = false := by simp; omega
  have d2 : decide ((n : Int) < 5) = false := by simp; omega
  have d3 : decide ((n : Int) < 10) = false := by simp; omega
  have d4 : decide ((n : Int) < 50) = false := by simp; omega
  have d5 : decide ((n : Int) < 80) = true := by simp; omega
  go_enter Tryd.func22, Tryd.ntmps22
  go_upto_region 4 with fail
  obtain ⟨w1, hw1⟩ : ∃ w1, w1 = (w.alloc (.cells zeroD 55)).alloc (.cells lit5 55) := ⟨_, rfl⟩
  have HS1 := Lib.hid (show FS w (w.heap.size + 1) colour5 none 0 0 w1 from by
    rw [hw1]
    refine ⟨?_, ?_, ((Below.refl _ _).alloc (Nat.le_refl _) _).alloc (by simp) _, Nat.lt_succ_self _⟩
    · have := CdAt.new (w.alloc (.cells zeroD 55)) lit5
      rw [← lit5_card]
      simpa using this
    · exact (CdAt.new w zeroD).keep ((Below.refl _ _).alloc (Nat.le_refl _) _))
  rw [← hw1]
  clear hw1
  obtain ⟨P, hP⟩ : ∃ P, P = w.heap.size + 1 := ⟨_, rfl⟩
  rw [← hP] at HS1 ⊢
  clear hP
  obtain ⟨j, hj⟩ : ∃ j, j = n % 5 := ⟨_, rfl⟩
  obtain ⟨m, hm⟩ : ∃ m, m = n - 50 := ⟨_, rfl⟩
  obtain ⟨k, hk⟩ : ∃ k, k = m / 5 := ⟨_, rfl⟩
  obtain ⟨F, hF⟩ : ∃ F, F = (k % 2 == 0) := ⟨_, rfl⟩
  have HT := Lib.hid (show tblC n = ⟨2, (j : Int), F, updI (updI noC j 1) 5 (k : Int), 0, 0, 0, [⟨0, noC, false, (magicL.getD m []).getD 0 0, effL ((magicL.getD m []).drop 1)⟩]⟩ by
    unfold tblC
    rw [if_neg (by omega), if_neg (by omega), if_neg (by omega), if_pos h1, ← hj, ← hm, ← hk, ← hF])
  have r5 : (n : Int) % 5 = (j : Int) := by omega
  have vm : IntKind.i64.wrap ((n : Int) - 50) = (m : Int) := by rw [i64_in (by omega) (by omega)]; omega
  have vk : (m : Int) / 5 = (k : Int) := by omega
  have vF : ((k : Int) % 2 == 0) = F := by rw [hF, Bool.eq_iff_iff, beq_iff_eq, beq_iff_eq]; omega
  have hj5 : j < 5 := by omega
  have hm30 : m < 30 := by omega
  have hk6 : k < 6 := by omega
  go_upto_region 35 with fail
  clear d0 d1 d2 d3 d4 d5 hj hm hk h0 h1 hF
  go_wp2_with fail
  refine (magicRef_any w1).mono ?_
  rintro e w2 ⟨A4, rfl, hrows, hb2⟩
  have HS2 := Lib.hid (HS1.out.keep hb2)
  have HPw := Lib.hid HS1.out.cd.lt
  have hlen : magicL.length = 30 := rfl
  have hmem := List.getElem?_eq_getElem (show m < magicL.length by omega)
  obtain ⟨r, hr⟩ : ∃ r, r = magicL[m]'(by omega) := ⟨_, rfl⟩
  rw [← hr] at hmem
  obtain ⟨_, b, hbb, hcell, hNr⟩ := hrows m r hmem
  have HGet := Lib.hid (show magicL.getD m [] = r by rw [List.getD_eq_getElem?_getD, hmem]; rfl)
  have HRow := Lib.hid (magic_rows r (by rw [hr]; exact List.getElem_mem _))
  rw [hlen]
  have l0 : (0 : Int) ≤ (m : Int) := by omega
  have l1 : (m : Int) < 30 := by omega
  have f0 := HS2.out.frozen 0
  have k0 : w2.cell? ⟨P, 0, none⟩ = some (.int .i64 0) := HS2.out.kind
  have f1 := HS2.out.frozen 1
  have k1 : w2.cell? ⟨P, 1, none⟩ = some (.int .i64 5) := HS2.out.colour
  have HN := Lib.hid hNr
  have HbP := Lib.hid (show b ≠ P ∧ b < w2.heap.size from ⟨by have := HPw.out; omega, (nums_cell hNr 0 (by have := HRow.out.2.1; omega)).1⟩)
  clear hr hmem hrows hlen hb2 hNr
  go_upto_region 37 with fail
  obtain ⟨w3, hW⟩ : ∃ W, W = (w2.setCell ⟨P, 0, none⟩ (.int .i64 2)).setCell ⟨P, 1, none⟩ (.int .i64 (j : Int)) := ⟨_, rfl⟩
  have HS3 := Lib.hid (show FS w P ⟨2, (j : Int), false, noC, 0, 0, 0, []⟩ none 0 0 w3 by rw [hW]; exact ((HS2.out.set_ 0 _ (set_kind _ _ _ _ _)).set_ 1 _ (set_colour _ _ _ _ _)))
  have HM3 := Lib.hid (show w3.heap[b]? = w2.heap[b]? ∧ w3.heap.size = w2.heap.size by
    rw [hW]
    refine ⟨?_, by simp [World.setCell, World.setCell]⟩
    rw [heap_setCell_other _ _ _ _ HbP.out.1, heap_setCell_other _ _ _ _ HbP.out.1])
  rw [← hW]
  clear hW f0 k0 f1 k1 HS2 hcell l0 l1 r5
  have f2 := HS3.out.frozen 2
  have k2 : w3.cell? ⟨P, 2, none⟩ = some (.bool false) := HS3.out.fast
  go_upto_region 38 with fail
  obtain ⟨w4, hW⟩ : ∃ W, W = w3.setCell ⟨P, 2, none⟩ (.bool F) := ⟨_, rfl⟩
  have HS4 := Lib.hid (show FS w P ⟨2, (j : Int), F, noC, 0, 0, 0, []⟩ none 0 0 w4 by rw [hW]; exact (HS3.out.set_ 2 _ (set_fast _ _ _ _ _)))
  have HM4 := Lib.hid (show w4.heap[b]? = w2.heap[b]? ∧ w4.heap.size = w2.heap.size by
    rw [hW]
    refine ⟨?_, by simp [World.setCell, HM3.out.2]⟩
    rw [heap_setCell_other _ _ _ _ HbP.out.1]; exact HM3.out.1)
  rw [← hW]
  clear hW f2 k2 HS3 vF
  have k1 : w4.cell? ⟨P, 1, none⟩ = some (.int .i64 (j : Int)) := HS4.out.colour
  have kj : w4.cell? ⟨P, 3 + j, none⟩ = some (.int .i64 0) := HS4.out.cost (by omega)
  have fj := HS4.out.frozen (3 + j)
  have hS5 := HS4.out.set_ (3 + j) (.int .i64 1) (set_cost _ _ _ _ j (by omega) 1)
  have k8 : (w4.setCell ⟨P, 3 + j, none⟩ (.int .i64 1)).cell? ⟨P, 8, none⟩ = some (.int .i64 0) := by
    have h : (w4.setCell ⟨P, 3 + j, none⟩ (.int .i64 1)).cell? ⟨P, 8, none⟩ = some (.int .i64 (updI noC j 1 5)) := hS5.cost (j := 5) (by omega)
    rw [show updI noC j 1 5 = 0 by simp [updI, show ¬ 5 = j by omega]] at h
    exact h
  have f8 := hS5.frozen 8
  have g0 : (0 : Int) ≤ (j : Int) := by omega
  have g6 : (j : Int) < 6 := by omega
  go_upto_region 39 with fail
  obtain ⟨w5, hW⟩ : ∃ W, W = (w4.setCell ⟨P, 3 + j, none⟩ (.int .i64 1)).setCell ⟨P, 8, none⟩ (.int .i64 (k : Int)) := ⟨_, rfl⟩
  have HS5 := Lib.hid (show FS w P ⟨2, (j : Int), F, updI (updI noC j 1) 5 (k : Int), 0, 0, 0, []⟩ none 0 0 w5 by rw [hW]; exact (hS5.set_ 8 _ (set_cost _ _ _ _ 5 (by omega) _)))
  have HM5 := Lib.hid (show w5.heap[b]? = w2.heap[b]? ∧ w5.heap.size = w2.heap.size by
    rw [hW]
    refine ⟨?_, by simp [World.setCell, HM4.out.2]⟩
    rw [heap_setCell_other _ _ _ _ HbP.out.1, heap_setCell_other _ _ _ _ HbP.out.1]; exact HM4.out.1)
  rw [← hW]
  clear hW k1 kj fj k8 f8 hS5 HS4 vk vm g0 g6
  have hN5 := nums_block HN.out HM5.out.1 (by rw [HM5.out.2]; exact Nat.le_refl _)
  obtain ⟨rl, rm, ru, rb⟩ := HRow.out
  obtain ⟨x0, hx0⟩ : ∃ x, x = r.getD 0 0 := ⟨_, rfl⟩
  have hc0 : w5.cell? ⟨b, 0, none⟩ = some (.int .i64 x0) := by rw [hx0]; exact (nums_cell hN5 0 (by omega)).2
  have HX0 := Lib.hid (show In64 x0 by rw [hx0]; exact getD_in rb 0)
  obtain ⟨T, hT⟩ : ∃ T, T = effL (r.drop 1) := ⟨_, rfl⟩
  have HT2 := Lib.hid (show tblC n = ⟨2, (j : Int), F, updI (updI noC j 1) 5 (k : Int), 0, 0, 0, [⟨0, noC, false, x0, T⟩]⟩ by rw [HT.out, HGet.out, hx0, hT])
  have HEf := Lib.hid (fun W (hW : Below w5.heap.size w5 W) => effectRef_any (r.drop 1) b (0 + 1) (r.length - 1) (r.length - 1) ((r.length - 5) / 4) W ((nums_cut ((hN5.below hW).more hW.size) 1)) (by rw [List.length_drop]; omega) (by omega) (fun i => by rw [drop_getD]; exact getD_in rb _))
  have HTe := Lib.hid hT
  have l0 : 0 < r.length := by omega
  have n1 : (1 : Int) ≤ (r.length : Int) := by omega
  have c1 : ¬ r.length = 1 := by omega
  have HbS := Lib.hid (show b < w5.heap.size by rw [HM5.out.2]; exact HbP.out.2)
  clear hx0 hT hN5 HRow rb
  refine wp_region_held_drew (S := fun W => W.cell? ⟨b, 0, none⟩ = some (.int .i64 x0)) (by kernel_rfl) hc0 (fun hHeld => ?_)
  refine wpAnyH_take (i := 0) (v := ?_) rfl (by kernel_rfl) (by kernel_rfl) (by kernel_rfl) (fun _ _ _ h => h) (Or.inl ⟨by rfl, ?_⟩) hHeld ?_
  rotate_left
  · (intro w hSw; go_simp; (try with_reducible rfl))
  simp only [Act.put, List.getElem_toArray, List.getElem_cons_zero, List.getElem_cons_succ, List.setIfInBounds_toArray, List.set_cons_zero, List.set_cons_succ]
  refine wpAnyH_take (i := 1) (v := ?_) rfl (by kernel_rfl) (by kernel_rfl) (by kernel_rfl) (fun _ _ _ h => h) (Or.inl ⟨by rfl, ?_⟩) hHeld ?_
  rotate_left
  · (intro w hSw; go_simp; (try with_reducible rfl))
  simp only [Act.put, List.getElem_toArray, List.getElem_cons_zero, List.getElem_cons_succ, List.setIfInBounds_toArray, List.set_cons_zero, List.set_cons_succ]
  refine wpAnyH_take (i := 2) (v := ?_) rfl (by kernel_rfl) (by kernel_rfl) (by kernel_rfl) (fun _ _ _ h => h) (Or.inl ⟨by rfl, ?_⟩) hHeld ?_
  rotate_left
  · (intro w hSw; go_simp; (try with_reducible rfl))
  simp only [Act.put, List.getElem_toArray, List.getElem_cons_zero, List.getElem_cons_succ, List.setIfInBounds_toArray, List.set_cons_zero, List.set_cons_succ]
  refine wpAnyH_take (i := 3) (v := ?_) rfl (by kernel_rfl) (by kernel_rfl) (by kernel_rfl) (fun _ _ _ h => h) (Or.inl ⟨by rfl, ?_⟩) hHeld ?_
  rotate_left
  · (intro w hSw; go_simp; (try with_reducible rfl))
  simp only [Act.put, List.getElem_toArray, List.getElem_cons_zero, List.getElem_cons_succ, List.setIfInBounds_toArray, List.set_cons_zero, List.set_cons_succ]
  refine wpAnyH_take (i := 4) (v := ?_) rfl (by kernel_rfl) (by kernel_rfl) (by kernel_rfl) (fun _ _ _ h => h) (Or.inl ⟨by rfl, ?_⟩) hHeld ?_
  rotate_left
  · (intro w hSw; go_simp; (try with_reducible rfl))
  simp only [Act.put, List.getElem_toArray, List.getElem_cons_zero, List.getElem_cons_succ, List.setIfInBounds_toArray, List.set_cons_zero, List.set_cons_succ]
  have hb0 : Below w5.heap.size w5 w5.drew := (Below.refl _ _).drew
  have HS0 := Lib.hid (HS5.out.keep hb0)
  have hsz0 : w5.heap.size ≤ w5.drew.heap.size := hb0.size
  generalize w5.drew = W0 at hHeld hb0 HS0 hsz0 ⊢
  refine wpAnyH_ready (rs := [5]) (by kernel_rfl) (by simp) ?_
  refine AllReadyH.cons rfl (fun K hK => ?_) AllReadyH.nil
  simp only [List.getElem_toArray, List.getElem_cons_zero, List.getElem_cons_succ]
  go_simp
  refine (HEf.out W0 hb0).mono ?_
  rintro e w6 ⟨cs5, rfl, hr5, hb6⟩
  rw [← HTe.out] at hr5
  go_wp2_with fail
  have hH6 : w6.cell? ⟨b, 0, none⟩ = some (.int .i64 x0) := (hb6.cell (show b < W0.heap.size by have := HbS.out; omega)).trans hHeld
  refine hK.out _ _ hH6 (fun _ => ?_)
  clear hK K
  try simp only [Act.put, List.setIfInBounds_toArray, List.set_cons_zero, List.set_cons_succ]
  have hs5 := hr5.size
  have hra : ReadsAQ (fun b => W0.heap.size ≤ b ∧ b < w6.heap.size) w6 2 (abC ⟨0, noC, false, x0, T⟩ cs5) ⟨0, noC, false, x0, T⟩ := ⟨in_0, wide_no, HX0.out, cs5, rfl, hr5⟩
  obtain ⟨A5, c5, hcs5⟩ := hr5.shape
  have HCs5 := Lib.hid hcs5
  rw [hcs5]
  unfold evC
  clear hcs5
  refine wpAnyH_take (i := 6) (v := ?_) rfl (by kernel_rfl) (by kernel_rfl) (by kernel_rfl) (fun _ _ _ h => h) (Or.inl ⟨by rfl, ?_⟩) hH6 ?_
  rotate_left
  · (intro w hSw; go_simp; (try with_reducible rfl))
  simp only [Act.put, List.getElem_toArray, List.getElem_cons_zero, List.getElem_cons_succ, List.setIfInBounds_toArray, List.set_cons_zero, List.set_cons_succ]
  refine wpAnyH_ready (rs := [7]) (by kernel_rfl) (by simp) ?_
  refine AllReadyH.cons rfl (fun K hK => ?_) AllReadyH.nil
  simp only [List.getElem_toArray, List.getElem_cons_zero, List.getElem_cons_succ]
  obtain ⟨ys, hys⟩ : ∃ ys, ys = abC ⟨0, noC, false, x0, T⟩ cs5 := ⟨_, rfl⟩
  rw [← hys] at hra
  have hy14 := hra.size
  refine wp_buildSlice_ab (.tmp 152) rfl ys hy14 (by rw [hys, HCs5.out]; exact congrArg Value.agg (abC14 ⟨0, noC, false, x0, T⟩ _ _ _ _ _).symm) ?_
  have hS6 := HS0.out.keep hb6
  have hPl := hS6.cd.lt
  obtain ⟨w7, hW⟩ : ∃ W, W = w6.alloc (.cells ys 79) := ⟨_, rfl⟩
  have hb7 : Below w6.heap.size w6 w7 := by rw [hW]; exact (Below.refl _ _).alloc (Nat.le_refl _) _
  have hG7 : AbAt w7 w6.heap.size ys := by rw [hW]; exact AbAt.new _ _
  rw [← hW]
  clear hW
  have hS7 := hS6.keep hb7
  have hH7 : w7.cell? ⟨b, 0, none⟩ = some (.int .i64 x0) := (hb7.cell (show b < w6.heap.size by have := HbS.out; have := hb6.size; omega)).trans hH6
  have q12 := hS7.abs
  have f12 := hS7.frozen 12
  refine hK.out _ _ hH7 (fun _ => ?_)
  clear hK K
  try simp only [Act.put, List.setIfInBounds_toArray, List.set_cons_zero, List.set_cons_succ]
  refine wpAnyH_ready (rs := [8]) (by kernel_rfl) (by simp) ?_
  refine AllReadyH.cons rfl (fun K hK => ?_) AllReadyH.nil
  simp only [List.getElem_toArray, List.getElem_cons_zero, List.getElem_cons_succ]
  go_simp
  refine hK.out _ _ hH7 (fun _ => ?_)
  clear hK K
  try simp only [Act.put, List.setIfInBounds_toArray, List.set_cons_zero, List.set_cons_succ]
  refine wpAnyH_ready (rs := [9]) (by kernel_rfl) (by simp) ?_
  refine AllReadyH.cons rfl (fun K hK => ?_) AllReadyH.nil
  simp only [List.getElem_toArray, List.getElem_cons_zero, List.getElem_cons_succ]
  go_simp
  refine hK.out _ _ ((World.cell?_setCell_other w7 ⟨P, 12, none⟩ ⟨b, 0, none⟩ _ (by intro e; injection e with e1 e2; exact HbP.out.1 e1.symm)).trans hH7) (fun _ => ?_)
  clear hK K
  try simp only [Act.put, List.setIfInBounds_toArray, List.set_cons_zero, List.set_cons_succ]
  refine wpAnyH_done (by kernel_rfl) ?_ _
  have hwl : w.heap.size < W0.heap.size := by have := HS0.out.cd.lt; have := HS0.out.lt; omega
  have hPW : P < W0.heap.size := HS0.out.cd.lt
  have hs67 := hb6.size
  obtain ⟨w8, hW⟩ : ∃ W, W = w7.setCell ⟨P, 12, none⟩ (.slice (some ⟨w6.heap.size, 0, none⟩) 1 1) := ⟨_, rfl⟩
  have HS9 := Lib.hid (show FS w P ⟨2, (j : Int), F, updI (updI noC j 1) 5 (k : Int), 0, 0, 0, [⟨0, noC, false, x0, T⟩]⟩ (some ⟨w6.heap.size, 0, none⟩) 1 1 w8 by rw [hW]; exact hS7.set_ 12 _ (set_list _ _ _ _ _ _ _ _))
  have HG := Lib.hid (show AbAt w8 w6.heap.size ys by rw [hW]; exact (heap_setCell_other _ _ _ _ (by simp; omega)).trans hG7)
  have HRa := Lib.hid (hra.keep (w' := w8) (fun b' hq => by rw [hW]; exact (heap_setCell_other _ _ _ _ (by simp; omega)).trans (hb7.block b' hq.2)) (Q' := fun b => w.heap.size < b ∧ b < w8.heap.size) (fun b' hq => ⟨by omega, by rw [hW]; simp [World.setCell]; have := hb7.size; omega⟩))
  rw [← hW]
  clear hW q12 f12 hS6 hS7 hH7 hH6 hHeld hra hys hr5 hG7 hb6 hb7 hb0
  go_upto_region 54 with fail
  have hz9 := HS9.out.z
  have hb9 := HS9.out.b
  have hP9 := HS9.out.cd
  have hlt9 := HS9.out.lt
  have hs9 := HS9.out.size
  have hsx9 : (Tryd.prog.info? 55).map (·.size) = some (cardC ⟨2, (j : Int), F, updI (updI noC j 1) 5 (k : Int), 0, 0, 0, [⟨0, noC, false, x0, T⟩]⟩ (some ⟨w6.heap.size, 0, none⟩) 1 1).size := by rw [hs9]; exact size13
  have h19 : (cardC ⟨2, (j : Int), F, updI (updI noC j 1) 5 (k : Int), 0, 0, 0, [⟨0, noC, false, x0, T⟩]⟩ (some ⟨w6.heap.size, 0, none⟩) 1 1).all (·.oneCell') = true := card_one _ _ _ _
  go_wp2_with (first
    | (refine wpList_load_row rfl 55 (.tmp 4) rfl P rfl 55 _ (0, 0) _ hP9 Tryd.underlying55 rfl hsx9 ?_)
    | (refine wpList_store_row rfl 55 (.tmp 2) (.tmp 238) rfl w.heap.size _ rfl rfl 55 zeroD hz9 hsx9 (by rw [hs9]; rfl) h19 ?_))
  refine bodyPost_ret (v := .tuple #[.agg (cardC ⟨2, (j : Int), F, updI (updI noC j 1) 5 (k : Int), 0, 0, 0, [⟨0, noC, false, x0, T⟩]⟩ (some ⟨w6.heap.size, 0, none⟩) 1 1), .bool true]) ?_ rfl ⟨_, rfl, ?_, below_setRow hb9 _ _ (Nat.le_refl _)⟩
  · exact results_cell_tmp (ty := 55) (p := 2) (q := 3) (by kernel_rfl) _ _ w.heap.size 55 _ (0, 0) _ rfl (setRow_heap _ _ _ _ _ _ hz9) Tryd.underlying55 rfl hsx9
  rw [HT2.out]
  exact FS.reads HS9.out _ in_2 ⟨by show _ ≤ (j : Int); omega, by show (j : Int) ≤ _; omega⟩ (wide_two (by omega)) in_0 in_0 in_0 (Nat.le_refl _) (by unfold maxLen; omega) (one_ab HG.out HRa.out ⟨by omega, HG.out.lt⟩)
end Go.Proofs.YtplfblccaeligaaDoor
