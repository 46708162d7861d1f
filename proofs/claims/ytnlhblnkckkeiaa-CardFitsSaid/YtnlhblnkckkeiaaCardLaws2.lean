/- Layer 7: the laws' walks: CardUses, CardFits. -/
import Derived.Test.YtnlhblnkckkeiaaCardLaws1
namespace Go.Proofs.Ytnlhblnkckkeiaa
open Go.RowKit Ex Mx
set_option linter.unusedSimpArgs false in
set_option maxRecDepth 100000 in
set_option maxHeartbeats 1000000 in
theorem cardUses_walk {w : World} (S : CardSaid w) (d : Nat) (c : CardT) (cs : Array Value) (wh : Int) (hr : ReadsC w.heap.size w d cs c) (hwh : In64 wh) :
    Calls Try.prog 4 #[.agg cs, .int .i64 wh] w fun e w' => e = .returned (.bool true) ∧ Below w.heap.size w w' := by
  have hsx : (Try.prog.info? 26).map (·.size) = some cs.size := by rw [hr.size]; exact size13
  go_enter Try.func4, Try.ntmps4
  go_upto_region 1 with fail
  obtain ⟨w1, hw1⟩ : ∃ w1, w1 = w.alloc (.cells cs 26) := ⟨_, rfl⟩
  have HE := Lib.hid (show CdAt w1 w.heap.size cs by rw [hw1]; exact CdAt.new _ _)
  have hb1 : Below w.heap.size w w1 := by rw [hw1]; exact (Below.refl _ _).alloc (Nat.le_refl _) _
  rw [← hw1]
  clear hw1
  go_wp2_with fail
  refine (cardAlive S w1 hb1).mono ?_
  rintro e w2 ⟨rfl, hb2⟩
  have hE2 := HE.out.keep hb2
  have hbw2 := keepB hb2 hb1
  go_wp2_with (refine wantCd (by rfl) (.tmp 2) rfl w.heap.size rfl cs hE2 hsx ?_)
  refine (largeC_any d c cs w2 (hr.grow hbw2)).mono ?_
  rintro e w3 ⟨q, hq, rfl, hb3⟩
  have hbw3 := keepB hb3 hbw2
  have HE3 := Lib.hid (hE2.keep hb3)
  clear hE2 hb2 hb3 hbw2 HE
  cases q
  case true =>
    clear hq
    go_wp2_with fail
    go_ret
    exact ⟨rfl, hbw3⟩
  have hs := hq rfl
  have hs9 := hs.1
  have HC := Lib.hid (fun W (hW : Below w3.heap.size w3 W) => S.uses d c cs wh W (hr.grow (keepB hW hbw3)) hs hwh (keepB hW hbw3))
  have HR := Lib.hid (fun W (hW : Below w3.heap.size w3 W) => usesRef_any d c cs wh W (hr.grow (keepB hW hbw3)) (by omega))
  have HC2 := Lib.hid (fun W (hW : Below w3.heap.size w3 W) => S.aims d c cs W (hr.grow (keepB hW hbw3)) hs (keepB hW hbw3))
  have HR2 := Lib.hid (fun W (hW : Below w3.heap.size w3 W) => aimsRef_any d c cs W (hr.grow (keepB hW hbw3)) (by omega))
  have hul := usesK_len c.abs wh c.abs.length
  obtain ⟨l, hl⟩ : ∃ l, l = usesL c.abs wh := ⟨_, rfl⟩
  have hll : l.length ≤ 9 := by rw [hl]; unfold usesL; omega
  obtain ⟨v, hv⟩ : ∃ v, v = aimsL c.abs := ⟨_, rfl⟩
  rw [← hl] at HC HR
  rw [← hv] at HC2 HR2
  clear hq hs hv hr hl hul hs9 hwh
  go_upto_region 5 with fail
  refine region_below (by kernel_rfl) (fun hHeld => ?_)
  refine wpAnyH_take (i := 0) (v := .agg cs) rfl (by kernel_rfl) (by kernel_rfl) (by kernel_rfl) (fun _ _ _ h => h) (yieldsCd (by rfl) (.tmp 2) rfl w.heap.size rfl cs (fun W hW => HE3.out.keep hW) hsx) hHeld ?_
  simp only [Act.put, List.getElem_toArray, List.getElem_cons_zero, List.getElem_cons_succ, List.setIfInBounds_toArray, List.set_cons_zero, List.set_cons_succ]
  refine wpAnyH_take (i := 3) (v := .agg cs) rfl (by kernel_rfl) (by kernel_rfl) (by kernel_rfl) (fun _ _ _ h => h) (yieldsCd (by rfl) (.tmp 2) rfl w.heap.size rfl cs (fun W hW => HE3.out.keep hW) hsx) hHeld ?_
  simp only [Act.put, List.getElem_toArray, List.getElem_cons_zero, List.getElem_cons_succ, List.setIfInBounds_toArray, List.set_cons_zero, List.set_cons_succ]
  refine wpAnyH_take (i := 1) (v := ?_) rfl (by kernel_rfl) (by kernel_rfl) (by kernel_rfl) (fun _ _ _ h => h) (Or.inl ⟨by rfl, ?_⟩) hHeld ?_
  rotate_left
  · (intro w hSw; go_simp; (try with_reducible rfl))
  simp only [Act.put, List.getElem_toArray, List.getElem_cons_zero, List.getElem_cons_succ, List.setIfInBounds_toArray, List.set_cons_zero, List.set_cons_succ]
  refine wpAnyH_take (i := 4) (v := ?_) rfl (by kernel_rfl) (by kernel_rfl) (by kernel_rfl) (fun _ _ _ h => h) (Or.inl ⟨by rfl, ?_⟩) hHeld ?_
  rotate_left
  · (intro w hSw; go_simp; (try with_reducible rfl))
  simp only [Act.put, List.getElem_toArray, List.getElem_cons_zero, List.getElem_cons_succ, List.setIfInBounds_toArray, List.set_cons_zero, List.set_cons_succ]
  refine wpAnyH_ready (rs := [2]) (by kernel_rfl) (by simp) ?_
  refine AllReadyH.cons rfl (fun K hK => ?_) AllReadyH.nil
  simp only [List.getElem_toArray, List.getElem_cons_zero, List.getElem_cons_succ]
  go_simp
  refine (HC.out _ hHeld).mono ?_
  rintro e w4 ⟨A4, m4, c4, rfl, hN4, _, hb4⟩
  go_wp2_with fail
  have hB4 := keepB hb4 hHeld
  refine hK.out _ _ hB4 (fun _ => ?_)
  clear hK K
  try simp only [Act.put, List.setIfInBounds_toArray, List.set_cons_zero, List.set_cons_succ]
  refine anyH_rebase hB4 (fun hHeld => ?_)
  refine wpAnyH_ready (rs := [5]) (by kernel_rfl) (by simp) ?_
  refine AllReadyH.cons rfl (fun K hK => ?_) AllReadyH.nil
  simp only [List.getElem_toArray, List.getElem_cons_zero, List.getElem_cons_succ]
  go_simp
  refine (HR.out _ hB4).mono ?_
  rintro e w5 ⟨A5, m5, c5, rfl, hO5, hb5⟩
  have hN45 := hN4.below hb5
  have hN5 := hO5.nums
  go_wp2_with fail
  have hB5 := keepB hb5 hHeld
  refine hK.out _ _ hB5 (fun _ => ?_)
  clear hK K
  try simp only [Act.put, List.setIfInBounds_toArray, List.set_cons_zero, List.set_cons_succ]
  refine anyH_rebase hB5 (fun hHeld => ?_)
  have hB54 := keepB hB5 hB4
  refine wpAnyH_ready (rs := [6]) (by kernel_rfl) (by simp) ?_
  refine AllReadyH.cons rfl (fun K hK => ?_) AllReadyH.nil
  simp only [List.getElem_toArray, List.getElem_cons_zero, List.getElem_cons_succ]
  go_simp
  refine (ints_any A4 A5 m4 c4 m5 c5 l l _ _ _ hN45 hN5 (by have := hN4.len; omega) (by have := hN5.len; omega)).mono ?_
  rintro e w6 ⟨rfl, nm, rfl⟩
  rw [decide_eq_true (rfl : l = l)]
  go_wp2_with fail
  have hB6 := keepB (below_drewN (Below.refl _ _) nm) hHeld
  refine hK.out _ _ hB6 (fun _ => ?_)
  clear hK K
  try simp only [Act.put, List.setIfInBounds_toArray, List.set_cons_zero, List.set_cons_succ]
  refine anyH_rebase hB6 (fun hHeld => ?_)
  have hB64 := keepB hB6 hB54
  refine wpAnyH_take (i := 7) (v := ?_) rfl (by kernel_rfl) (by kernel_rfl) (by kernel_rfl) (fun _ _ _ h => h) (Or.inl ⟨by rfl, ?_⟩) hHeld ?_
  rotate_left
  · (intro w hSw; go_simp; (try with_reducible rfl))
  simp only [Act.put, List.getElem_toArray, List.getElem_cons_zero, List.getElem_cons_succ, List.setIfInBounds_toArray, List.set_cons_zero, List.set_cons_succ]
  refine wpAnyH_take (i := 8) (v := .agg cs) rfl (by kernel_rfl) (by kernel_rfl) (by kernel_rfl) (fun _ _ _ h => h) (yieldsCd (by rfl) (.tmp 2) rfl w.heap.size rfl cs (fun W hW => HE3.out.keep (keepB hW hB64)) hsx) hHeld ?_
  simp only [Act.put, List.getElem_toArray, List.getElem_cons_zero, List.getElem_cons_succ, List.setIfInBounds_toArray, List.set_cons_zero, List.set_cons_succ]
  refine wpAnyH_take (i := 10) (v := .agg cs) rfl (by kernel_rfl) (by kernel_rfl) (by kernel_rfl) (fun _ _ _ h => h) (yieldsCd (by rfl) (.tmp 2) rfl w.heap.size rfl cs (fun W hW => HE3.out.keep (keepB hW hB64)) hsx) hHeld ?_
  simp only [Act.put, List.getElem_toArray, List.getElem_cons_zero, List.getElem_cons_succ, List.setIfInBounds_toArray, List.set_cons_zero, List.set_cons_succ]
  refine wpAnyH_ready (rs := [9]) (by kernel_rfl) (by simp) ?_
  refine AllReadyH.cons rfl (fun K hK => ?_) AllReadyH.nil
  simp only [List.getElem_toArray, List.getElem_cons_zero, List.getElem_cons_succ]
  go_simp
  refine (HC2.out _ hB64).mono ?_
  rintro e w7 ⟨rfl, hb7⟩
  go_wp2_with fail
  have hB7 := keepB hb7 hHeld
  refine hK.out _ _ hB7 (fun _ => ?_)
  clear hK K
  try simp only [Act.put, List.setIfInBounds_toArray, List.set_cons_zero, List.set_cons_succ]
  refine anyH_rebase hB7 (fun hHeld => ?_)
  have hB74 := keepB hB7 hB64
  refine wpAnyH_ready (rs := [11]) (by kernel_rfl) (by simp) ?_
  refine AllReadyH.cons rfl (fun K hK => ?_) AllReadyH.nil
  simp only [List.getElem_toArray, List.getElem_cons_zero, List.getElem_cons_succ]
  go_simp
  refine (HR2.out _ hB74).mono ?_
  rintro e w8 ⟨rfl, hb8⟩
  go_wp2_with fail
  have hB8 := keepB hb8 hHeld
  refine hK.out _ _ hB8 (fun _ => ?_)
  clear hK K
  try simp only [Act.put, List.setIfInBounds_toArray, List.set_cons_zero, List.set_cons_succ]
  refine anyH_rebase hB8 (fun hHeld => ?_)
  have hB84 := keepB hB8 hB74
  refine wpAnyH_take (i := 12) (v := ?_) rfl (by kernel_rfl) (by kernel_rfl) (by kernel_rfl) (fun _ _ _ h => h) (Or.inl ⟨by rfl, ?_⟩) hHeld ?_
  rotate_left
  · (intro w hSw; go_simp; (try with_reducible rfl))
  simp only [Act.put, List.getElem_toArray, List.getElem_cons_zero, List.getElem_cons_succ, List.setIfInBounds_toArray, List.set_cons_zero, List.set_cons_succ]
  refine wpAnyH_take (i := 13) (v := ?_) rfl (by kernel_rfl) (by kernel_rfl) (by kernel_rfl) (fun _ _ _ h => h) (Or.inl ⟨by rfl, ?_⟩) hHeld ?_
  rotate_left
  · (intro w hSw; go_simp; (try with_reducible rfl))
  simp only [Act.put, List.getElem_toArray, List.getElem_cons_zero, List.getElem_cons_succ, List.setIfInBounds_toArray, List.set_cons_zero, List.set_cons_succ]
  refine wpAnyH_take (i := 14) (v := ?_) rfl (by kernel_rfl) (by kernel_rfl) (by kernel_rfl) (fun _ _ _ h => h) (Or.inl ⟨by rfl, ?_⟩) hHeld ?_
  rotate_left
  · (intro w hSw; go_simp; (try with_reducible rfl))
  simp only [Act.put, List.getElem_toArray, List.getElem_cons_zero, List.getElem_cons_succ, List.setIfInBounds_toArray, List.set_cons_zero, List.set_cons_succ]
  refine wpAnyH_done (by kernel_rfl) ?_ _
  go_wp2_with fail
  go_ret
  exact ⟨by simp, keepB hB84 hbw3⟩
namespace Ex
/-- What a right ability is. -/
theorem chkA_fits {a : AbT} (h : chkA a = 0) : chkTop a.do_ a.target = 0 ∧ (a.when_ = 5 → a.do_.op = 20) := by
  unfold chkA at h
  split at h
  · omega
  · split at h
    · omega
    · split at h
      · omega
      · split at h
        · omega
        · split at h
          · rename_i h2; exact absurd h h2
          · rename_i h2
            have h2 : chkTop a.do_ a.target = 0 := by
              by_cases e : chkTop a.do_ a.target = 0
              · exact e
              · exact absurd e h2
            split at h
            · omega
            · split at h
              · omega
              · rename_i h3
                exact ⟨h2, fun hw => by
                  by_cases hs : StC a
                  · exact (hs hw).1
                  · exact absurd hs h3⟩
theorem chkC_fits {c : CardT} (h : chkC c = 0) : (∀ (i : Nat) (a : AbT), c.abs[i]? = some a → chkA a = 0) ∧ (c.kind = 2 ↔ (usesL c.abs 0).length = 1) := by
  unfold chkC at h
  split at h
  · omega
  · split at h
    · omega
    · split at h
      · omega
      · split at h
        · omega
        · rename_i h3
          refine ⟨chkAs_all _ h, ?_⟩
          have hs : ShapeC c := by
            by_cases hs : ShapeC c
            · exact hs
            · exact absurd hs h3
          have h4 := hs.2
          constructor
          · intro hk; rw [if_pos hk] at h4; exact h4.1
          · intro hu
            by_cases hk : c.kind = 2
            · exact hk
            · rw [if_neg hk] at h4; omega
end Ex
def FtRel (w1 : World) (l : List AbT) (i : Value) (wr : World) : Prop := ∃ k : Nat, i = .int .i64 ((k : Nat) : Int) ∧ k ≤ l.length ∧ Below w1.heap.size w1 wr
set_option linter.unusedSimpArgs false in
set_option maxRecDepth 100000 in
set_option maxHeartbeats 2000000 in
theorem cardFits_walk {w : World} (S : CardSaid w) (T : ∀ (d : Nat) (t : ET) (cs : Array Value) (tg : Int) (w : World), Reads w.heap.size w d cs t → sizeT t ≤ 300 → Calls Try.prog 20 #[.agg cs, .int .i64 tg] w fun e w' => e = .returned (errV (chkTop t tg)) ∧ Below w.heap.size w w')
    (d : Nat) (c : CardT) (cs : Array Value) (hr : ReadsC w.heap.size w d cs c) :
    Calls Try.prog 6 #[.agg cs] w fun e w' => e = .returned (.bool true) ∧ Below w.heap.size w w' := by
  have hsx : (Try.prog.info? 26).map (·.size) = some cs.size := by rw [hr.size]; exact size13
  go_enter Try.func6, Try.ntmps6
  go_upto_region 1 with fail
  obtain ⟨w1, hw1⟩ : ∃ w1, w1 = w.alloc (.cells cs 26) := ⟨_, rfl⟩
  have HE := Lib.hid (show CdAt w1 w.heap.size cs by rw [hw1]; exact CdAt.new _ _)
  have hb1 : Below w.heap.size w w1 := by rw [hw1]; exact (Below.refl _ _).alloc (Nat.le_refl _) _
  rw [← hw1]
  clear hw1
  go_wp2_with fail
  refine (cardAlive S w1 hb1).mono ?_
  rintro e w2 ⟨rfl, hb2⟩
  have hE2 := HE.out.keep hb2
  have hbw2 := keepB hb2 hb1
  go_wp2_with (refine wantCd (by rfl) (.tmp 1) rfl w.heap.size rfl cs hE2 hsx ?_)
  refine (largeC_any d c cs w2 (hr.grow hbw2)).mono ?_
  rintro e w3 ⟨q, hq, rfl, hb3⟩
  have hbw3 := keepB hb3 hbw2
  have hE3 := hE2.keep hb3
  clear hE2 hb2 hb3 hbw2 HE
  cases q
  case true =>
    clear hq
    go_wp2_with fail
    go_ret
    exact ⟨rfl, hbw3⟩
  have hs := hq rfl
  clear hq
  go_wp2_with (refine wantCd (by rfl) (.tmp 1) rfl w.heap.size rfl cs hE3 hsx ?_)
  refine (S.check d c cs w3 (hr.grow hbw3) hs hbw3).mono ?_
  rintro e w4 ⟨rfl, hb4⟩
  have hbw4 := keepB hb4 hbw3
  have HE4 := Lib.hid (hE3.keep hb4)
  clear hE3
  by_cases hv : chkC c = 0
  case neg =>
    rw [errV_err hv]
    clear hv hs
    go_wp2_with fail
    go_ret
    exact ⟨rfl, hbw4⟩
  rw [hv, errV_nil]
  obtain ⟨hall, hkd⟩ := chkC_fits hv
  have HAll := Lib.hid hall
  have HKd := Lib.hid hkd
  have HSm := Lib.hid hs
  have HC := Lib.hid (fun W (hW : Below w4.heap.size w4 W) => S.uses d c cs 0 W (hr.grow (keepB hW hbw4)) hs ⟨by omega, by omega⟩ (keepB hW hbw4))
  have hl9 := hs.1
  obtain ⟨_, _, _, _, _, _, A, cc, hcs, hl, hc, hx⟩ := hr.grow hbw4
  have HX := Lib.hid hx
  have HCs := Lib.hid hcs
  clear hall hkd hs hv hx hcs hr hb4
  have c12 : w4.cell? ⟨w.heap.size, 12, none⟩ = some (.slice A c.abs.length cc) := by rw [HE4.out.cell, HCs.out]; exact cd_abs
  go_upto_region 6 with fail
  clear c12
  go_loopw [17] (fun i wr => FtRel w4 c.abs i wr) (fun i _ => c.abs.length - (intOf i).toNat)
  case atStart => exact ⟨0, rfl, by omega, Below.refl _ _⟩
  case round =>
    obtain ⟨k, rfl, hk, hb⟩ := hrel
    by_cases hlt : k < c.abs.length
    · obtain ⟨a, ha⟩ : ∃ a, c.abs[k]? = some a := ⟨_, List.getElem?_eq_getElem hlt⟩
      obtain ⟨b, o, ys, rfl, hbb, hrg, hra⟩ := HX.out.grow hb k a ha
      have hsz := HSm.out.2 k a ha
      obtain ⟨hck, hst⟩ := chkA_fits (HAll.out k a ha)
      have hd : decide ((k : Int) < (c.abs.length : Int)) = true := by simp; omega
      go_upto_region 7 with fail
      have hys := hra.size
      have hy1 := hra.one
      have hsy : (Try.prog.info? 44).map (·.size) = some ys.size := by rw [hys]; exact size14
      have hraw := hrg
      have hnew : (wr.alloc (.cells zeroA 44)).heap[wr.heap.size]? = some (.cells zeroA 44 (0, 0)) := heap_alloc_new _ _
      go_upto_region 8 with (first
        | (refine load_ab rfl (.tmp 19) rfl b (o + k * 14) rfl ys hys hraw ?_)
        | (refine wpList_store_row rfl 44 (.tmp 4) (.tmp 20) rfl wr.heap.size _ rfl rfl 44 zeroA hnew hsy (by rw [hys]; rfl) hy1 ?_))
      obtain ⟨wn, hwn, hAn, hbn⟩ := ab_box wr (xs := ys)
      have hran := hra.grow hbn
      have hbwn := keepB hbn hb
      rw [← hwn]
      clear hwn hnew hraw hy1
      obtain ⟨_, _, _, xs, hye, hrx⟩ := hran
      subst hye
      have hxs := hrx.size
      have hdo := hAn.do_
      have k8 : wn.cell? ⟨wr.heap.size, 8, none⟩ = some (.int .i64 a.target) := by rw [hAn.cell]; exact ab_target
      have hcall := T d a.do_ xs a.target wn hrx hsz
      rw [hck, errV_nil] at hcall
      go_wp2_with (refine wantDo (by rfl) (.tmp 21) rfl wr.heap.size 9 rfl xs hxs hdo ?_)
      refine hcall.mono ?_
      rintro e w5 ⟨rfl, hb5⟩
      have hA5 := hAn.keep hb5
      have hbw5 := keepB hb5 hbwn
      have k0 : w5.cell? ⟨wr.heap.size, 0, none⟩ = some (.int .i64 a.when_) := by rw [hA5.cell]; exact ab_when
      obtain ⟨Ax, cx, hxe, _, _⟩ := hrx.shape
      have k9 : w5.cell? ⟨wr.heap.size, 9, none⟩ = some (.int .i64 a.do_.op) := by rw [hA5.cell]; exact (ab_op 0).trans (by rw [hxe]; rfl)
      obtain ⟨wh, hwh⟩ : ∃ x, x = a.when_ := ⟨_, rfl⟩
      obtain ⟨op, hop⟩ : ∃ x, x = a.do_.op := ⟨_, rfl⟩
      rw [← hwh] at k0 hst
      rw [← hop] at k9 hst
      clear hxe hwh hop hcall hdo k8 hrx hb5 hbn hrg hra hA5 hAn hd hck
      by_cases h5 : wh = 5
      · have e5 : (wh == 5) = true := by simpa using h5
        have e20 : (op != 20) = false := by simpa using hst h5
        clear hst h5
        go_wp2_with fail
        go_roundw
        case rel => exact ⟨k + 1, by go_num, by omega, hbw5⟩
        case measure => simp [intOf]; omega
      · have e5 : (wh == 5) = false := by simpa using h5
        clear hst h5
        go_wp2_with fail
        go_roundw
        case rel => exact ⟨k + 1, by go_num, by omega, hbw5⟩
        case measure => simp [intOf]; omega
    · obtain rfl : k = c.abs.length := by omega
      have hd : decide ((c.abs.length : Int) < (c.abs.length : Int)) = false := by simp
      have HEr := Lib.hid (HE4.out.keep hb)
      have k0 : ∀ W, Below wr.heap.size wr W → W.cell? ⟨w.heap.size, 0, none⟩ = some (.int .i64 c.kind) := fun W hW => by rw [(HEr.out.keep hW).cell, HCs.out]; exact cd_kind
      go_upto_region 11 with fail
      refine region_below (by kernel_rfl) (fun hHeld => ?_)
      refine wpAnyH_take (i := 0) (v := .agg cs) rfl (by kernel_rfl) (by kernel_rfl) (by kernel_rfl) (fun _ _ _ h => h) (yieldsCd (by rfl) (.tmp 1) rfl w.heap.size rfl cs (fun W hW => HEr.out.keep hW) hsx) hHeld ?_
      simp only [Act.put, List.getElem_toArray, List.getElem_cons_zero, List.getElem_cons_succ, List.setIfInBounds_toArray, List.set_cons_zero, List.set_cons_succ]
      refine wpAnyH_take (i := 4) (v := ?_) rfl (by kernel_rfl) (by kernel_rfl) (by kernel_rfl) (fun _ _ _ h => h) (Or.inl ⟨by rfl, ?_⟩) hHeld ?_
      rotate_left
      · (intro w hSw; go_simp; (try with_reducible rfl))
      simp only [Act.put, List.getElem_toArray, List.getElem_cons_zero, List.getElem_cons_succ, List.setIfInBounds_toArray, List.set_cons_zero, List.set_cons_succ]
      refine wpAnyH_take (i := 5) (v := ?_) rfl (by kernel_rfl) (by kernel_rfl) (by kernel_rfl) (fun _ _ _ h => h) (Or.inl ⟨by rfl, ?_⟩) hHeld ?_
      rotate_left
      · (intro w hSw; go_simp; (try with_reducible rfl))
      simp only [Act.put, List.getElem_toArray, List.getElem_cons_zero, List.getElem_cons_succ, List.setIfInBounds_toArray, List.set_cons_zero, List.set_cons_succ]
      refine wpAnyH_take (i := 6) (v := ?_) rfl (by kernel_rfl) (by kernel_rfl) (by kernel_rfl) (fun _ _ _ h => h) (Or.inl ⟨by rfl, ?_⟩) hHeld ?_
      rotate_left
      · (intro w hSw; go_simp; (try with_reducible rfl))
      simp only [Act.put, List.getElem_toArray, List.getElem_cons_zero, List.getElem_cons_succ, List.setIfInBounds_toArray, List.set_cons_zero, List.set_cons_succ]
      refine wpAnyH_ready (rs := [1]) (by kernel_rfl) (by simp) ?_
      refine AllReadyH.cons rfl (fun K hK => ?_) AllReadyH.nil
      simp only [List.getElem_toArray, List.getElem_cons_zero, List.getElem_cons_succ]
      go_simp
      refine (HC.out _ (keepB hHeld hb)).mono ?_
      rintro e w6 ⟨A6, m6, c6, rfl, hN6, _, hb6⟩
      have hm6 := hN6.len
      clear hN6 k0
      go_wp2_with fail
      have hB6 := keepB hb6 hHeld
      refine hK.out _ _ hB6 (fun _ => ?_)
      clear hK K
      try simp only [Act.put, List.setIfInBounds_toArray, List.set_cons_zero, List.set_cons_succ]
      refine anyH_rebase hB6 (fun hHeld => ?_)
      refine wpAnyH_take (i := 2) (v := ?_) rfl (by kernel_rfl) (by kernel_rfl) (by kernel_rfl) (fun _ _ _ h => h) (Or.inl ⟨by rfl, ?_⟩) hHeld ?_
      rotate_left
      · (intro w hSw; go_simp; (try with_reducible rfl))
      simp only [Act.put, List.getElem_toArray, List.getElem_cons_zero, List.getElem_cons_succ, List.setIfInBounds_toArray, List.set_cons_zero, List.set_cons_succ]
      refine wpAnyH_take (i := 3) (v := ?_) rfl (by kernel_rfl) (by kernel_rfl) (by kernel_rfl) (fun _ _ _ h => h) (Or.inl ⟨by rfl, ?_⟩) hHeld ?_
      rotate_left
      · (intro w hSw; go_simp; (try with_reducible rfl))
      simp only [Act.put, List.getElem_toArray, List.getElem_cons_zero, List.getElem_cons_succ, List.setIfInBounds_toArray, List.set_cons_zero, List.set_cons_succ]
      refine wpAnyH_take (i := 7) (v := ?_) rfl (by kernel_rfl) (by kernel_rfl) (by kernel_rfl) (fun _ _ _ h => h) (Or.inl ⟨by rfl, ?_⟩) hHeld ?_
      rotate_left
      · (intro w hSw; go_simp; (try with_reducible rfl))
      simp only [Act.put, List.getElem_toArray, List.getElem_cons_zero, List.getElem_cons_succ, List.setIfInBounds_toArray, List.set_cons_zero, List.set_cons_succ]
      refine wpAnyH_take (i := 8) (v := ?_) rfl (by kernel_rfl) (by kernel_rfl) (by kernel_rfl) (fun _ _ _ h => h) (Or.inl ⟨by rfl, ?_⟩) hHeld ?_
      rotate_left
      · (intro w hSw; go_simp; (try with_reducible rfl))
      simp only [Act.put, List.getElem_toArray, List.getElem_cons_zero, List.getElem_cons_succ, List.setIfInBounds_toArray, List.set_cons_zero, List.set_cons_succ]
      refine wpAnyH_done (by kernel_rfl) ?_ _
      have HK : Hid (((m6 : Int) == 1) = (c.kind == 2)) := by
        show _ = _
        rw [Bool.eq_iff_iff, beq_iff_eq, beq_iff_eq, HKd.out, hm6]; omega
      obtain ⟨q, hq⟩ : ∃ q : Bool, q = (c.kind == 2) := ⟨_, rfl⟩
      rw [← hq] at HK
      go_wp2_with fail
      go_ret
      exact ⟨by first | rfl | (simp [HK.out, hq]) | (rw [HK.out, hq]; simp), keepB (keepB hB6 hb) hbw4⟩
end Go.Proofs.Ytnlhblnkckkeiaa
