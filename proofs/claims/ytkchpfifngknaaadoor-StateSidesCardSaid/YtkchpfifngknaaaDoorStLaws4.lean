/- Layer 10: the law StateSides. -/
import Derived.Test.YtkchpfifngknaaaDoorStLaws1
namespace Go.Proofs.YtkchpfifngknaaaDoor
open Go.RowKit Ex
attribute [local go_sem] arr_get
set_option maxRecDepth 100000
theorem zone_side {z : Nat} (h : z < 8) : zoneV ((z : Int) - (z : Int) % 2) ((z : Int) % 2) = (z : Int) := by
  unfold zoneV
  rw [if_pos (by omega)]
  omega
theorem zone_not {z : Nat} (h : 8 ≤ z) : zoneV (z : Int) 0 = -1 := by
  unfold zoneV
  rw [if_neg (by omega)]
/-- Where the lists are right, each object stands once, where it says. -/
theorem zones_at {s : StT} (h : zonesB s = true) {y : Nat} (hy : y < 11) {x : Int} (hx : x ∈ s.lists y) : ∃ id : Nat, x = (id : Int) ∧ ∃ hid : id < s.objs.length, s.objs[id] 3 = (y : Int) ∧ wrongO s.objs[id] = false ∧ timesN s id 11 = 1 := by
  simp only [zonesB, Bool.and_eq_true] at h
  have h1 := List.all_eq_true.1 h.1 y (List.mem_range.2 hy)
  have h2 := List.all_eq_true.1 h1 x hx
  simp only [Bool.and_eq_true, decide_eq_true_eq] at h2
  obtain ⟨id, rfl⟩ : ∃ id : Nat, x = (id : Int) := ⟨x.toNat, by omega⟩
  have hid : id < s.objs.length := by omega
  have h3 := List.all_eq_true.1 h.2 id (List.mem_range.2 hid)
  rw [List.getD_eq_getElem?_getD, List.getElem?_eq_getElem hid, Option.getD_some] at h3
  simp only [zoneO, Bool.and_eq_true, beq_iff_eq, Bool.not_eq_true'] at h3
  refine ⟨id, rfl, hid, ?_, h3.2, h3.1.2⟩
  have h4 := List.all_eq_true.1 h3.1.1 y (List.mem_range.2 hy)
  simp only [Bool.or_eq_true, beq_iff_eq, Bool.not_eq_true'] at h4
  rcases h4 with h4 | h4
  · exact h4.symm
  · rw [List.contains_iff_mem.2 hx] at h4; cases h4
theorem zones_len {s : StT} (h : zonesB s = true) : (flatS s 11).length = s.objs.length := by
  have hS : Seen s 11 (flatS s 11) := by
    refine ⟨?_, fun x hx => ?_, fun y hy x hx => ?_⟩
    · rw [List.nodup_iff_count]
      intro x
      by_cases hx : x ∈ flatS s 11
      · obtain ⟨y, hy, hxy⟩ := flatS_mem.1 hx
        obtain ⟨id, rfl, _, _, _, ht⟩ := zones_at h hy hxy
        rw [flatS_count, ht]
        exact Nat.le_refl _
      · rw [List.count_eq_zero_of_not_mem hx]; exact Nat.zero_le _
    · obtain ⟨y, hy, hxy⟩ := flatS_mem.1 hx
      obtain ⟨id, rfl, hid, _⟩ := zones_at h hy hxy
      exact ⟨by omega, by omega⟩
    · obtain ⟨id, rfl, hid, h3, hw, _⟩ := zones_at h hy hx
      rw [Int.toNat_natCast, List.getD_eq_getElem?_getD, List.getElem?_eq_getElem hid, Option.getD_some]
      by_cases hm : mayB s.objs[id] y = true
      · exact hm
      · have := mayB_wrong (by simpa using hm) h3
        rw [hw] at this; cases this
  have := zones_seen hS
  rw [h] at this
  simpa using this.symm
/-- How many stand in the lists ahead of one. -/
theorem flat_len {s : StT} (hll : ∀ z < 11, (s.lists z).length ≤ 200 + 10) : ∀ z, z ≤ 11 → (flatS s z).length ≤ z * 210
  | 0, _ => by simp [flatS]
  | z + 1, h => by
    have := flat_len hll z (by omega)
    have := hll z (by omega)
    rw [flatS_succ, List.length_append]
    omega
set_option linter.unusedSimpArgs false in
set_option maxHeartbeats 0 in
theorem stateSides_walk {w : World} (T : TabF w) (s : StT) (O : SlT) (L : Nat → SlT) (cs : Array Value) (h : ReadsS w.heap.size w cs s O L) :
    Calls Tryd.prog 6 #[.agg cs] w fun e w' => e = .returned (.bool true) ∧ Below w.heap.size w w' := by
  have hcsz := h.size
  go_enter Tryd.func6, Tryd.ntmps6
  have hcs := h.cs
  have c0 : cs[0]? = some (.slice O.A O.n O.c) := by rw [hcs]; exact stC_objs _ _ _ _
  have hOn := h.on
  have hOc := h.oc
  have hO := h.o
  have hsz : (Tryd.prog.info? 29).map (·.size) = some cs.size := by rw [h.size]; exact size37
  have H := Lib.hid h
  clear h
  obtain ⟨A, n, c⟩ := O
  simp only at c0 hOn hOc hO
  have HC := Lib.hid hcs
  clear hcs
  subst hOn
  go_upto_region 1 with fail
  have hs0 : StAt (w.alloc (.cells cs 29)) w.heap.size cs := StAt.new _ _
  have hb0 : Below w.heap.size w (w.alloc (.cells cs 29)) := (Below.refl _ _).alloc (Nat.le_refl _) _
  obtain ⟨w1, hw1⟩ : ∃ w1, w1 = w.alloc (.cells cs 29) := ⟨_, rfl⟩
  rw [← hw1] at hs0 hb0 ⊢
  clear hw1
  have c1 := (hs0.cell 0).trans c0
  go_wp2_with fail
  refine (stAlive T w1 hb0).mono ?_
  rintro e w2 ⟨rfl, hb2⟩
  have hs2 := hs0.keep hb2
  have hbw2 := keepB hb2 hb0
  clear c1 hs0
  go_wp2_with (refine load_wantS (by rfl) (.tmp 1) rfl w.heap.size rfl cs hs2 hcsz ?_)
  have hl := long_any s _ L cs 200 w2 w2.heap.size ((H.out.grow hbw2)) (by omega)
  rw [show ((200 : Nat) : Int) = 200 from rfl] at hl
  refine hl.mono ?_
  clear hl
  rintro e w3 ⟨rfl, hb3⟩
  have hs3 := hs2.keep hb3
  have hbw3 := keepB hb3 hbw2
  clear hb2 hs2 hbw2 hb3 hb0
  by_cases hlg : longS s 200 = true
  · rw [hlg]
    go_wp2_with fail
    go_ret
    exact ⟨rfl, hbw3⟩
  replace hlg : longS s 200 = false := by simpa using hlg
  obtain ⟨hn, hll⟩ := long_not hlg
  rw [hlg]
  clear hlg
  have HS := Lib.hid hs3
  have HB := Lib.hid hbw3
  clear hs3 hbw3
  go_upto_region 6 with fail
  go_loopw [16] (fun i wr => ∃ z : Nat, i = .int .i64 ((z : Nat) : Int) ∧ z ≤ 11 ∧ w3 = wr) (fun i _ => 11 - (intOf i).toNat)
  case atStart => exact ⟨0, rfl, by omega, rfl⟩
  case round =>
    obtain ⟨z, rfl, hz, rfl⟩ := hrel
    by_cases hlt : z < 11
    · have hd : decide ((z : Int) < 11) = true := by simp; omega
      have hsd := side_code (z : Int) w3
      by_cases h8 : z < 8
      · have e1 : sideB (z : Int) = (z : Int) - (z : Int) % 2 := by rw [sideB, if_pos (by omega)]
        have e2 : sideP (z : Int) = (z : Int) % 2 := by rw [sideP, if_pos (by omega)]
        have e3 : sideO (z : Int) = true := by simp [sideO]; omega
        have hzc := zone_code ((z : Int) - (z : Int) % 2) ((z : Int) % 2) w3
        rw [zone_side h8] at hzc
        rw [e1, e2, e3] at hsd
        obtain ⟨x, hx⟩ : ∃ x, x = (z : Int) - (z : Int) % 2 := ⟨_, rfl⟩
        obtain ⟨y, hy⟩ : ∃ y, y = (z : Int) % 2 := ⟨_, rfl⟩
        rw [← hx, ← hy] at hsd hzc
        have ez : ((z : Int) != (z : Int)) = false := by simp
        clear e1 e2 e3 hx hy
        go_wp2_with fail
        refine hsd.mono ?_
        rintro e w4 ⟨rfl, rfl⟩
        go_wp2_with fail
        refine hzc.mono ?_
        rintro e w4 ⟨rfl, rfl⟩
        go_wp2_with fail
        go_roundw
        case rel => exact ⟨z + 1, by go_num, by omega, trivial⟩
        case measure => simp [intOf]; omega
      · have e1 : sideB (z : Int) = (z : Int) := by rw [sideB, if_neg (by omega), if_pos (by omega)]
        have e2 : sideP (z : Int) = 0 := by rw [sideP, if_neg (by omega)]
        have e3 : sideO (z : Int) = false := by simp [sideO]; omega
        have hzc := zone_code (z : Int) 0 w3
        rw [zone_not (by omega)] at hzc
        rw [e1, e2, e3] at hsd
        have ez : ((z : Int) != (z : Int)) = false := by simp
        clear e1 e2 e3
        go_wp2_with fail
        refine hsd.mono ?_
        rintro e w4 ⟨rfl, rfl⟩
        go_wp2_with fail
        refine hzc.mono ?_
        rintro e w4 ⟨rfl, rfl⟩
        go_wp2_with fail
        go_roundw
        case rel => exact ⟨z + 1, by go_num, by omega, trivial⟩
        case measure => simp [intOf]; omega
    · obtain rfl : z = 11 := by omega
      have hs3 := HS.out
      have hcc := check_code T s _ L cs w3 w3.heap.size (H.out.grow HB.out) (Nat.le_refl _) (by omega) (fun z hz => by have := hll z hz; omega) HB.out
      go_wp2_with (refine load_wantS (by rfl) (.tmp 1) rfl w.heap.size rfl cs hs3 hcsz ?_)
      refine hcc.mono ?_
      rintro e w4 ⟨rfl, hb4⟩
      clear hcc
      have hs4 := hs3.keep hb4
      have hbw4 := keepB hb4 HB.out
      clear hs3 hb4 HS HB
      by_cases hck : chkS s = 0
      case neg =>
        rw [errV_err hck]
        go_wp2_with fail
        go_ret
        exact ⟨rfl, hbw4⟩
      have hz1 : zonesB s = true := by
        cases hq : zonesB s with
        | true => rfl
        | false =>
          exfalso
          simp only [chkS, hq] at hck
          split at hck
          · cases hck
          · split at hck
            · cases hck
            · cases hck
      have hn4 : s.objs.length ≤ 400 := by omega
      rw [hck, errV_nil]
      have HZ := Lib.hid hz1
      have HFl := Lib.hid (flat_len hll)
      have HLen := Lib.hid (zones_len hz1)
      clear hck hz1
      have hra := hs4
      rw [HC.out] at hra
      have hra := hra.ls
      go_upto_region 16 with (refine load_lists rfl (.tmp 52) rfl w.heap.size 1 rfl (sl11 L) (sl11_size L) hra ?_)
      clear hra
      go_loopw [7, 54] (fun c i wr => ∃ y : Nat, i = .int .i64 ((y : Nat) : Int) ∧ c = .int .i64 (((flatS s y).length : Nat) : Int) ∧ y ≤ 11 ∧ w4 = wr) (fun _ i _ => 11 - (intOf i).toNat)
      case atStart => exact ⟨0, rfl, rfl, by omega, rfl⟩
      case round =>
        obtain ⟨y, rfl, rfl, hy, rfl⟩ := hrel
        have hfl := HFl.out y hy
        have c3 := (hs4.cell 0).trans c0
        by_cases hyl : y < 11
        · have hd : decide ((y : Int) < 11) = true := by simp; omega
          obtain ⟨A2, n2, c2, hc2, hnc2, hN⟩ := list_at H.out hyl
          have hln := hN.len
          have hnm : n2 ≤ 210 := by have := hll y hyl; omega
          have HN := Lib.hid (hN.below hbw4)
          have HFs := Lib.hid (show (flatS s (y + 1)).length = (flatS s y).length + n2 by rw [flatS_succ, List.length_append, hln])
          obtain ⟨m, hm⟩ : ∃ m, m = (flatS s y).length := ⟨_, rfl⟩
          rw [← hm] at HFs hfl
          rw [← hm]
          clear hN hm
          go_upto_region 20 with fail
          go_loopw [64] (fun i wq => ∃ k : Nat, i = .int .i64 ((k : Nat) : Int) ∧ k ≤ n2 ∧ w4 = wq) (fun i _ => n2 - (intOf i).toNat)
          case atStart => exact ⟨0, rfl, by omega, rfl⟩
          case round =>
            obtain ⟨k, rfl, hk, rfl⟩ := hrel
            by_cases hkn : k < n2
            · have hd2 : decide ((k : Int) < (n2 : Int)) = true := by simp; omega
              obtain ⟨a, rfl, hab, hca⟩ := HN.out.at_ (show k < (s.lists y).length by omega)
              obtain ⟨id, hid0, hid, ho3, _, _⟩ := zones_at HZ.out hyl (List.getElem_mem (show k < (s.lists y).length by omega))
              rw [hid0] at hca
              clear hid0
              have g0 : (0 : Int) ≤ (k : Int) := by omega
              have g1 : (k : Int) < (n2 : Int) := by omega
              have b0 : (0 : Int) ≤ (id : Int) := by omega
              have b2 : (id : Int) < (s.objs.length : Int) := by omega
              obtain ⟨b, off, rfl, hbB, hra⟩ := hO.at_ hid
              have hra := range_below hbw4 (by omega) hra
              have hcx : w4.cell? ⟨b, off + id * 18 + 3, none⟩ = some (.int .i64 (y : Int)) := by
                rw [← ho3]
                exact hra 3 _ (by rw [Array.getElem?_toList]; exact arr_get .i64 18 _ (by omega))
              have ey : ((y : Int) != (y : Int)) = false := by simp
              clear hra ho3
              go_wp2_with fail
              go_roundw
              case rel => exact ⟨k + 1, by go_num, by omega, trivial⟩
              case measure => simp [intOf]; omega
            · obtain rfl : k = n2 := by omega
              go_wp2_with fail
              go_roundw
              case rel => exact ⟨y + 1, by go_num, by rw [HFs.out]; go_num, by omega, trivial⟩
              case measure => simp [intOf]; omega
        · obtain rfl : y = 11 := by omega
          have hl := HLen.out
          obtain ⟨m, hm⟩ : ∃ m, m = (flatS s 11).length := ⟨_, rfl⟩
          rw [← hm] at hl
          rw [← hm]
          clear hm hfl
          subst hl
          have e1 : ((s.objs.length : Int) == (s.objs.length : Int)) = true := by simp
          have e2 : decide ((s.objs.length : Int) ≤ 400) = true := by simp; omega
          go_wp2_with fail
          go_ret
          exact ⟨rfl, hbw4⟩
end Go.Proofs.YtkchpfifngknaaaDoor
