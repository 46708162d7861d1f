/- Layer 8: the reference's Card: the Sources. Layer 8: the reference's Card: the Sources of colour 5. Layer 8: the reference's Card of any number. -/
import Derived.Test.YtmdfgkfimlmmnaaDoorTblRef3
import Derived.Test.YtmdfgkfimlmmnaaDoorTblRefC
import Derived.Test.YtmdfgkfimlmmnaaDoorTblRefF
import Derived.Test.YtmdfgkfimlmmnaaDoorTblG1
namespace Go.Proofs.YtmdfgkfimlmmnaaDoor
open Go.RowKit Ex Mx
set_option linter.unusedSimpArgs false in
set_option maxRecDepth 100000 in
set_option maxHeartbeats 1000000 in
theorem cardRef_src (n : Nat) (w : World) (h1 : n < 5) : Calls Tryd.prog 9 #[.int .i64 (n : Int)] w (CardQ (tblC n) (.bool true) w) := by
  have d0 : decide ((n : Int) < 0) = false := by simp
  have d1 : decide ((119 : Int) < (n : Int)) = false := by simp; omega
  have d2 : decide ((n : Int) < 5) = true := by simp; omega
  go_enter Tryd.func9, Tryd.ntmps9
  go_upto_region 4 with fail
  obtain ⟨w1, hw1⟩ : ∃ w1, w1 = (w.alloc (.cells zeroD 27)).alloc (.cells lit5 27) := ⟨_, rfl⟩
  have HS1 := Lib.hid (show FS w (w.heap.size + 1) colour5 none 0 0 w1 from by
    rw [hw1]
    refine ⟨?_, ?_, ((Below.refl _ _).alloc (Nat.le_refl _) _).alloc (by simp) _, Nat.lt_succ_self _⟩
    · have := CdAt.new (w.alloc (.cells zeroD 27)) lit5
      rw [← lit5_card]
      simpa using this
    · exact (CdAt.new w zeroD).keep ((Below.refl _ _).alloc (Nat.le_refl _) _))
  rw [← hw1]
  clear hw1
  obtain ⟨P, hP⟩ : ∃ P, P = w.heap.size + 1 := ⟨_, rfl⟩
  rw [← hP] at HS1 ⊢
  clear hP
  go_upto_region 5 with fail
  clear d0 d1 d2
  have f1 := HS1.out.frozen 1
  have k1 := HS1.out.colour
  go_upto_region 6 with fail
  obtain ⟨w2, hW⟩ : ∃ W, W = w1.setCell ⟨P, 1, none⟩ (.int .i64 (n : Int)) := ⟨_, rfl⟩
  have HS2 := Lib.hid (show FS w P { colour5 with colour := (n : Int) } none 0 0 w2 by rw [hW]; exact HS1.out.set_ 1 _ (set_colour _ _ _ _ _))
  rw [← hW]
  clear hW f1 k1 HS1
  go_wp2_with fail
  refine (giveRef_any 1 (n : Int) w2).mono ?_
  rintro e w3 ⟨rfl, hb3⟩
  have hS3 := HS2.out.keep hb3
  obtain ⟨ys, hys⟩ : ∃ ys, ys = abC (giveA 1 (n : Int)) (evC 15 1 (n : Int) 0 none 0 0) := ⟨_, rfl⟩
  have hra : ∀ (Q : Nat → Prop) (W : World), ReadsAQ Q W 2 ys (giveA 1 (n : Int)) := fun Q W => by
    rw [hys]; exact flat_reads 6 0 15 1 n 0 noC true (by exact ⟨by decide, by decide⟩) wide_no in_0 (by exact ⟨by decide, by decide⟩) in_1 ⟨by omega, by omega⟩ in_0
  have HRa := Lib.hid hra
  rw [← hys]
  have hy14 : ys.size = 14 := (hra (fun _ => True) w).size
  have hb4 : Below w3.heap.size w3 (w3.alloc (.cells ys 48)) := (Below.refl _ _).alloc (Nat.le_refl _) _
  have hS4 := hS3.keep hb4
  have q12 := hS4.abs
  have f12 := hS4.frozen 12
  have hG := AbAt.new w3 ys
  have hPl := hS3.cd.lt
  clear hys hra
  go_upto_region 54 with (refine wpList_buildSlice_ab rfl (.tmp 22) rfl ys hy14 rfl ?_)
  have hwl : w.heap.size < w3.heap.size := by have := hS3.lt; omega
  have HS3 := Lib.hid hS3
  clear hS3 hS4 hG hb3 hb4
  obtain ⟨w5, hW⟩ : ∃ W, W = (w3.setCell ⟨P, 12, none⟩ (.slice (some ⟨w3.heap.size, 0, none⟩) 1 1)).alloc (.cells ys 48) := ⟨_, rfl⟩
  have HS5 := Lib.hid (show FS w P ⟨0, (n : Int), false, noC, 0, 0, 0, [giveA 1 (n : Int)]⟩ (some ⟨w3.heap.size, 0, none⟩) 1 1 w5 by rw [hW]; exact (HS3.out.set_ 12 _ (set_list _ _ _ _ _ _ _ _)).keep ((Below.refl _ _).alloc (Nat.le_refl _) _))
  have HG := Lib.hid (show AbAt w5 w3.heap.size ys by rw [hW]; simpa using AbAt.new (w3.setCell ⟨P, 12, none⟩ (.slice (some ⟨w3.heap.size, 0, none⟩) 1 1)) ys)
  rw [← hW]
  clear hW q12 f12 HS3
  have hz9 := HS5.out.z
  have hb9 := HS5.out.b
  have hP9 := HS5.out.cd
  have hlt9 := HS5.out.lt
  have hs9 := HS5.out.size
  have hsx9 : (Tryd.prog.info? 27).map (·.size) = some (cardC ⟨0, (n : Int), false, noC, 0, 0, 0, [giveA 1 (n : Int)]⟩ (some ⟨w3.heap.size, 0, none⟩) 1 1).size := by rw [hs9]; exact size13
  have h19 : (cardC ⟨0, (n : Int), false, noC, 0, 0, 0, [giveA 1 (n : Int)]⟩ (some ⟨w3.heap.size, 0, none⟩) 1 1).all (·.oneCell') = true := card_one _ _ _ _
  go_wp2_with (first
    | (refine wpList_load_row rfl 27 (.tmp 4) rfl P rfl 27 _ (0, 0) _ hP9 Tryd.underlying27 rfl hsx9 ?_)
    | (refine wpList_store_row rfl 27 (.tmp 2) (.tmp 238) rfl w.heap.size _ rfl rfl 27 zeroD hz9 hsx9 (by rw [hs9]; rfl) h19 ?_))
  refine bodyPost_ret (v := .tuple #[.agg (cardC ⟨0, (n : Int), false, noC, 0, 0, 0, [giveA 1 (n : Int)]⟩ (some ⟨w3.heap.size, 0, none⟩) 1 1), .bool true]) ?_ rfl ⟨_, rfl, ?_, below_setRow hb9 _ _ (Nat.le_refl _)⟩
  · exact results_cell_tmp (ty := 27) (p := 2) (q := 3) (by kernel_rfl) _ _ w.heap.size 27 _ (0, 0) _ rfl (setRow_heap _ _ _ _ _ _ hz9) Tryd.underlying27 rfl hsx9
  rw [show tblC n = ⟨0, (n : Int), false, noC, 0, 0, 0, [giveA 1 (n : Int)]⟩ by unfold tblC; rw [if_pos h1]]
  exact FS.reads HS5.out _ in_0 ⟨by show _ ≤ (n : Int); omega, by show (n : Int) ≤ _; omega⟩ wide_no in_0 in_0 in_0 (Nat.le_refl _) (by unfold maxLen; omega) (one_ab HG.out (HRa.out _ _) ⟨hwl, HG.out.lt⟩)
end Go.Proofs.YtmdfgkfimlmmnaaDoor
namespace Go.Proofs.YtmdfgkfimlmmnaaDoor
open Go.RowKit Ex Mx
def give5 (q : Nat) : Int := [1, 1, 2, 2, 3].getD q 0
theorem give5_in (q : Nat) : In64 (give5 q) := getD_in (by decide) q
set_option linter.unusedSimpArgs false in
set_option maxRecDepth 100000 in
set_option maxHeartbeats 1000000 in
theorem cardRef_src5 (n : Nat) (w : World) (h0 : 5 ≤ n) (h1 : n < 10) : Calls Tryd.prog 9 #[.int .i64 (n : Int)] w (CardQ (tblC n) (.bool true) w) := by
  have d0 : decide ((n : Int) < 0) = false := by simp
  have d1 : decide ((119 : Int) < (n : Int)) = false := by simp; omega
  have d2 : decide ((n : Int) < 5) = false := by simp; omega
  have d3 : decide ((n : Int) < 10) = true := by simp; omega
  go_enter Tryd.func9, Tryd.ntmps9
  go_upto_region 4 with fail
  obtain ⟨w1, hw1⟩ : ∃ w1, w1 = (w.alloc (.cells zeroD 27)).alloc (.cells lit5 27) := ⟨_, rfl⟩
  have HS1 := Lib.hid (show FS w (w.heap.size + 1) colour5 none 0 0 w1 from by
    rw [hw1]
    refine ⟨?_, ?_, ((Below.refl _ _).alloc (Nat.le_refl _) _).alloc (by simp) _, Nat.lt_succ_self _⟩
    · have := CdAt.new (w.alloc (.cells zeroD 27)) lit5
      rw [← lit5_card]
      simpa using this
    · exact (CdAt.new w zeroD).keep ((Below.refl _ _).alloc (Nat.le_refl _) _))
  rw [← hw1]
  clear hw1
  obtain ⟨P, hP⟩ : ∃ P, P = w.heap.size + 1 := ⟨_, rfl⟩
  rw [← hP] at HS1 ⊢
  clear hP
  obtain ⟨p, hp⟩ : ∃ p, p = n - 4 := ⟨_, rfl⟩
  obtain ⟨q, hq⟩ : ∃ q, q = n - 5 := ⟨_, rfl⟩
  have HT := Lib.hid (show tblC n = ⟨0, 5, false, noC, 0, 0, 0, [⟨2, noC, false, 0, .node 3 (p : Int) 0 0 []⟩, giveA (give5 q) 5]⟩ by
    unfold tblC; rw [if_neg (by omega), if_pos h1, ← hp, ← hq]; rfl)
  have vp : IntKind.i64.wrap ((n : Int) - 4) = (p : Int) := by rw [i64_in (by omega) (by omega)]; omega
  have vq : IntKind.i64.wrap ((n : Int) - 5) = (q : Int) := by rw [i64_in (by omega) (by omega)]; omega
  have hq5 : q < 5 := by omega
  have hp5 : p ≤ 5 := by omega
  have l0 : (0 : Int) ≤ (q : Int) := by omega
  have l1 : (q : Int) < 5 := by omega
  go_upto_region 8 with fail
  clear d0 d1 d2 d3 hp hq h0 h1
  go_wp2_with (refine wpList_lits rfl rfl (fun ρ h => by simp only [List.map_toArray, List.map_cons, List.map_nil, h, litV]) rfl (fun _ => by kernel_rfl) ?_; intro w' hb' hc'; have HS2 := Lib.hid (HS1.out.keep hb'); have q0 : w'.cell? ⟨w1.heap.size, q, none⟩ = some (.int .i64 (give5 q)) := hc' q hq5; clear hc')
  refine (giveRef_any (give5 q) 5 w').mono ?_
  rintro e w3 ⟨rfl, hb3⟩
  have hS3 := HS2.out.keep hb3
  obtain ⟨v, hv⟩ : ∃ v, v = give5 q := ⟨_, rfl⟩
  have HV := Lib.hid hv
  have HVi := Lib.hid (show In64 v by rw [hv]; exact give5_in q)
  rw [← hv, show abC (giveA v 5) (evC 15 v 5 0 none 0 0) = #[.int .i64 6, .int .i64 0, .int .i64 0, .int .i64 0, .int .i64 0, .int .i64 0, .int .i64 0, .bool true, .int .i64 0, .int .i64 15, .int .i64 v, .int .i64 5, .int .i64 0, .slice none 0 0] from abC14 (giveA v 5) _ _ _ _ _]
  have hS4 := hS3.keep (show Below w3.heap.size w3 (w3.alloc (.cells #[.int .i64 2, .int .i64 0, .int .i64 0, .int .i64 0, .int .i64 0, .int .i64 0, .int .i64 0, .bool false, .int .i64 0, .int .i64 3, .int .i64 (p : Int), .int .i64 0, .int .i64 0, .slice none 0 0, .int .i64 6, .int .i64 0, .int .i64 0, .int .i64 0, .int .i64 0, .int .i64 0, .int .i64 0, .bool true, .int .i64 0, .int .i64 15, .int .i64 v, .int .i64 5, .int .i64 0, .slice none 0 0] 48)) from (Below.refl _ _).alloc (Nat.le_refl _) _)
  have q12 := hS4.abs
  have f12 := hS4.frozen 12
  have HPl := Lib.hid (show P < w3.heap.size ∧ w.heap.size < w3.heap.size by have := hS3.cd.lt; have := hS3.lt; omega)
  have HS3 := Lib.hid hS3
  clear hv q0 vq l0 l1 hS3 hS4
  go_upto_region 54 with fail
  obtain ⟨w5, hW⟩ : ∃ W, W = (w3.alloc (.cells #[.int .i64 2, .int .i64 0, .int .i64 0, .int .i64 0, .int .i64 0, .int .i64 0, .int .i64 0, .bool false, .int .i64 0, .int .i64 3, .int .i64 (p : Int), .int .i64 0, .int .i64 0, .slice none 0 0, .int .i64 6, .int .i64 0, .int .i64 0, .int .i64 0, .int .i64 0, .int .i64 0, .int .i64 0, .bool true, .int .i64 0, .int .i64 15, .int .i64 v, .int .i64 5, .int .i64 0, .slice none 0 0] 48)).setCell ⟨P, 12, none⟩ (.slice (some ⟨w3.heap.size, 0, none⟩) 2 2) := ⟨_, rfl⟩
  have HS5 := Lib.hid (show FS w P ⟨0, 5, false, noC, 0, 0, 0, [⟨2, noC, false, 0, .node 3 (p : Int) 0 0 []⟩, giveA v 5]⟩ (some ⟨w3.heap.size, 0, none⟩) 2 2 w5 by
    rw [hW]; exact (HS3.out.keep ((Below.refl _ _).alloc (Nat.le_refl _) _)).set_ 12 _ (set_list _ _ _ _ _ _ _ _))
  have HG := Lib.hid (show AbAt w5 w3.heap.size (#[.int .i64 2, .int .i64 0, .int .i64 0, .int .i64 0, .int .i64 0, .int .i64 0, .int .i64 0, .bool false, .int .i64 0, .int .i64 3, .int .i64 (p : Int), .int .i64 0, .int .i64 0, .slice none 0 0] ++ #[.int .i64 6, .int .i64 0, .int .i64 0, .int .i64 0, .int .i64 0, .int .i64 0, .int .i64 0, .bool true, .int .i64 0, .int .i64 15, .int .i64 v, .int .i64 5, .int .i64 0, .slice none 0 0]) by
    rw [hW]; exact (heap_setCell_other _ _ _ _ (by have := HPl.out; simp; omega)).trans (AbAt.new w3 #[.int .i64 2, .int .i64 0, .int .i64 0, .int .i64 0, .int .i64 0, .int .i64 0, .int .i64 0, .bool false, .int .i64 0, .int .i64 3, .int .i64 (p : Int), .int .i64 0, .int .i64 0, .slice none 0 0, .int .i64 6, .int .i64 0, .int .i64 0, .int .i64 0, .int .i64 0, .int .i64 0, .int .i64 0, .bool true, .int .i64 0, .int .i64 15, .int .i64 v, .int .i64 5, .int .i64 0, .slice none 0 0]))
  rw [← hW]
  clear hW q12 f12 HS3
  have hz9 := HS5.out.z
  have hb9 := HS5.out.b
  have hP9 := HS5.out.cd
  have hlt9 := HS5.out.lt
  have hs9 := HS5.out.size
  have hsx9 : (Tryd.prog.info? 27).map (·.size) = some (cardC ⟨0, 5, false, noC, 0, 0, 0, [⟨2, noC, false, 0, .node 3 (p : Int) 0 0 []⟩, giveA v 5]⟩ (some ⟨w3.heap.size, 0, none⟩) 2 2).size := by rw [hs9]; exact size13
  have h19 : (cardC ⟨0, 5, false, noC, 0, 0, 0, [⟨2, noC, false, 0, .node 3 (p : Int) 0 0 []⟩, giveA v 5]⟩ (some ⟨w3.heap.size, 0, none⟩) 2 2).all (·.oneCell') = true := card_one _ _ _ _
  go_wp2_with (first
    | (refine wpList_load_row rfl 27 (.tmp 4) rfl P rfl 27 _ (0, 0) _ hP9 Tryd.underlying27 rfl hsx9 ?_)
    | (refine wpList_store_row rfl 27 (.tmp 2) (.tmp 238) rfl w.heap.size _ rfl rfl 27 zeroD hz9 hsx9 (by rw [hs9]; rfl) h19 ?_))
  refine bodyPost_ret (v := .tuple #[.agg (cardC ⟨0, 5, false, noC, 0, 0, 0, [⟨2, noC, false, 0, .node 3 (p : Int) 0 0 []⟩, giveA v 5]⟩ (some ⟨w3.heap.size, 0, none⟩) 2 2), .bool true]) ?_ rfl ⟨_, rfl, ?_, below_setRow hb9 _ _ (Nat.le_refl _)⟩
  · exact results_cell_tmp (ty := 27) (p := 2) (q := 3) (by kernel_rfl) _ _ w.heap.size 27 _ (0, 0) _ rfl (setRow_heap _ _ _ _ _ _ hz9) Tryd.underlying27 rfl hsx9
  rw [HT.out, ← HV.out]
  have e1 : #[.int .i64 2, .int .i64 0, .int .i64 0, .int .i64 0, .int .i64 0, .int .i64 0, .int .i64 0, .bool false, .int .i64 0, .int .i64 3, .int .i64 (p : Int), .int .i64 0, .int .i64 0, .slice none 0 0] = abC ⟨2, noC, false, 0, .node 3 (p : Int) 0 0 []⟩ (evC 3 (p : Int) 0 0 none 0 0) := (abC14 ⟨2, noC, false, 0, .node 3 (p : Int) 0 0 []⟩ _ _ _ _ _).symm
  have e2 : #[.int .i64 6, .int .i64 0, .int .i64 0, .int .i64 0, .int .i64 0, .int .i64 0, .int .i64 0, .bool true, .int .i64 0, .int .i64 15, .int .i64 v, .int .i64 5, .int .i64 0, .slice none 0 0] = abC (giveA v 5) (evC 15 v 5 0 none 0 0) := (abC14 (giveA v 5) _ _ _ _ _).symm
  have hG := HG.out
  rw [e1, e2] at hG
  exact FS.reads HS5.out _ in_0 in_5 wide_no in_0 in_0 in_0 (Nat.le_refl _) (by unfold maxLen; omega)
    (two_ab hG (flat_reads 2 0 3 p 0 0 noC false in_2 wide_no in_0 in_3 ⟨by omega, by omega⟩ in_0 in_0) (flat_reads 6 0 15 v 5 0 noC true ⟨by decide, by decide⟩ wide_no in_0 ⟨by decide, by decide⟩ HVi.out in_5 in_0) ⟨HPl.out.2, HG.out.lt⟩)
end Go.Proofs.YtmdfgkfimlmmnaaDoor
namespace Go.Proofs.YtmdfgkfimlmmnaaDoor
open Go.RowKit Ex Mx
theorem zeroD_card : zeroD = cardC zeroT none 0 0 := by unfold cardC; rw [arr6]; rfl
set_option linter.unusedSimpArgs false in
set_option maxRecDepth 100000 in
set_option maxHeartbeats 1000000 in
theorem cardRef_out (x : Int) (w : World) (h : ¬ (0 ≤ x ∧ x ≤ 119)) : Calls Tryd.prog 9 #[.int .i64 x] w (CardQ zeroT (.bool false) w) := by
  have hb : (decide (x < 0) || decide (119 < x)) = true := by simp; omega
  go_enter Tryd.func9, Tryd.ntmps9
  go_upto_region 1 with fail
  obtain ⟨w1, hw1⟩ : ∃ w1, w1 = w.alloc (.cells zeroD 27) := ⟨_, rfl⟩
  have hZ : CdAt w1 w.heap.size zeroD := by rw [hw1]; exact CdAt.new _ _
  have hb1 : Below w.heap.size w w1 := by rw [hw1]; exact (Below.refl _ _).alloc (Nat.le_refl _) _
  rw [← hw1]
  clear hw1 h
  have h1 : zeroD.all (·.oneCell') = true := by rw [zeroD_card]; exact card_one _ _ _ _
  go_wp2_with (refine wpList_store_row rfl 27 (.tmp 2) (.tmp 15) rfl w.heap.size zeroD rfl rfl 27 zeroD hZ size13 rfl h1 ?_)
  all_goals refine bodyPost_ret (v := .tuple #[.agg zeroD, .bool false]) ?_ rfl ⟨_, rfl, ?_, below_setRow hb1 _ _ (Nat.le_refl _)⟩
  all_goals first
    | exact results_cell_tmp (ty := 27) (p := 2) (q := 3) (by kernel_rfl) _ _ w.heap.size 27 _ (0, 0) _ rfl (setRow_heap _ _ _ _ _ _ hZ) Tryd.underlying27 rfl size13
    | exact ⟨in_0, in_0, wide_no, in_0, in_0, in_0, none, 0, zeroD_card, Nat.le_refl _, by unfold maxLen; omega, no_ab⟩
/-- The reference's card of any number. -/
theorem cardRef_any (x : Int) (w : World) : Calls Tryd.prog 9 #[.int .i64 x] w (CardQ (tblX x) (.bool (isN x)) w) := by
  by_cases h : 0 ≤ x ∧ x ≤ 119
  · have hT : tblX x = tblC x.toNat := if_pos h
    have hN : isN x = true := decide_eq_true h
    rw [hT, hN]
    obtain ⟨n, rfl⟩ : ∃ n : Nat, x = (n : Int) := ⟨x.toNat, by omega⟩
    rw [Int.toNat_natCast]
    have hn : n < 120 := by omega
    by_cases h5 : n < 5
    · exact cardRef_src n w h5
    · by_cases h10 : n < 10
      · exact cardRef_src5 n w (by omega) h10
      · by_cases h50 : n < 50
        · exact cardRef_beast n w (by omega) h50
        · by_cases h80 : n < 80
          · exact cardRef_magic n w (by omega) h80
          · by_cases h100 : n < 100
            · exact cardRef_relic n w (by omega) h100
            · by_cases h112 : n < 112
              · exact cardRef_special n w (by omega) h112
              · exact cardRef_tok n w (by omega) hn
  · rw [show tblX x = zeroT from if_neg h, show isN x = false from decide_eq_false h]
    exact cardRef_out x w h
end Go.Proofs.YtmdfgkfimlmmnaaDoor
