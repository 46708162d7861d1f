/- Layer 4: the reference's Text. -/
import Derived.Test.YtammchaihangnaaDoorManaC
namespace Go.Proofs.YtammchaihangnaaDoor
open Go.RowKit Mx
attribute [local go_sem] arr_get
def letS (k : Nat) : ByteArray := ⟨#[letN k]⟩
def TORel (w2 : World) (f : Nat → Int) (s i : Value) (wr : World) : Prop := ∃ k : Nat, i = .int .i64 ((k : Nat) : Int) ∧ s = strV (lets f k) ∧ k ≤ 5 ∧ FewK f k ∧ wr = w2
def TIRel (w2 : World) (f : Nat → Int) (k : Nat) (s i : Value) (wr : World) : Prop := ∃ j : Nat, i = .int .i64 ((j : Nat) : Int) ∧ s = strV (lets f k ++ List.replicate j (letN k)) ∧ (j : Int) ≤ f k ∧ wr = w2
theorem fewK_all {f : Nat → Int} (h : FewK f 5) : Few f := h
set_option maxRecDepth 100000 in
set_option maxHeartbeats 1000000 in
theorem textRef_any (f : Nat → Int) (w : World) (hw : Wide f) : Calls Tryd.prog 16 #[.agg (arr .i64 6 f)] w (TextPost f (fun k => .int .i64 k) w) := by
  have hsz : (Tryd.prog.info? 23).map (·.size) = some (arr .i64 6 f).size := by rw [arr_size]; exact size6
  go_enter Tryd.func16, Tryd.ntmps16
  go_upto_region 1 with fail
  obtain ⟨w1, hw1⟩ : ∃ w1, w1 = w.alloc (.cells (arr .i64 6 f) 23) := ⟨_, rfl⟩
  have ha : ArrAt .i64 6 23 w1 w.heap.size f := by rw [hw1]; exact ArrAt.new w .i64 6 23 f
  have hb1 : Below w.heap.size w w1 := by rw [hw1]; exact (Below.refl _ _).alloc (Nat.le_refl _) _
  rw [← hw1]
  clear hw1
  have hgood := fun W => goodRef_any f W hw
  go_wp2_with (refine wpList_load_row rfl 23 (.tmp 1) rfl w.heap.size rfl 23 _ (0, 0) _ ha Tryd.underlying23 rfl hsz ?_)
  by_cases hg : GoodC f
  · refine (good_yes (hgood _) hg).mono ?_
    rintro e w2 ⟨rfl, hb2⟩
    have hA := ha.keep hb2
    have hbw := keepB hb2 hb1
    clear ha hb1 hb2 hgood hsz
    go_upto_region 5 with fail
    obtain ⟨w3, hw3⟩ : ∃ w3, w3 = w2.alloc (.cells #[.string ⟨#[87]⟩, .string ⟨#[85]⟩, .string ⟨#[66]⟩, .string ⟨#[82]⟩, .string ⟨#[71]⟩] 9) := ⟨_, rfl⟩
    have hb3 : Below w2.heap.size w2 w3 := by rw [hw3]; exact (Below.refl _ _).alloc (Nat.le_refl _) _
    have hL : w3.heap[w2.heap.size]? = some (.cells #[.string ⟨#[87]⟩, .string ⟨#[85]⟩, .string ⟨#[66]⟩, .string ⟨#[82]⟩, .string ⟨#[71]⟩] 9 (0, 0)) := by rw [hw3]; exact heap_alloc_new _ _
    have hl : ∀ k, k < 5 → w3.cell? ⟨w2.heap.size, k, none⟩ = some (.string (letS k)) := by
      intro k hk
      rw [cell_of_row w3 w2.heap.size k _ _ _ hL]
      match k, hk with
      | 0, _ | 1, _ | 2, _ | 3, _ | 4, _ => rfl
    have HL := Lib.hid hl
    have HA := Lib.hid (hA.keep hb3)
    have hbw3 := keepB hb3 hbw
    rw [← hw3]
    clear hw3 hL hl hA
    go_loopw [4, 13] (fun s i wr => TORel w3 f s i wr) (fun _ i _ => 5 - (intOf i).toNat)
    case atStart => exact ⟨0, rfl, rfl, by omega, fun i hi => absurd hi (by omega), rfl⟩
    case round =>
      obtain ⟨k, rfl, rfl, hk, hf, rfl⟩ := hrel
      have HF := Lib.hid hf
      clear hf
      by_cases hlt : k < 5
      · have hc1 := HL.out k hlt
        have hc2 := HA.out.cell (show k < 6 by omega)
        have b0 : (0 : Int) ≤ (k : Int) := by omega
        have b1 : (k : Int) < 6 := by omega
        have b2 : (k : Int) < 5 := by omega
        obtain ⟨x0, x1⟩ := hg k (by omega)
        obtain ⟨x, hx⟩ : ∃ x, x = f k := ⟨_, rfl⟩
        rw [← hx] at hc2 x0 x1
        have HX := Lib.hid hx
        clear hx
        by_cases hin : x ≤ 20
        · have hlen := lets_len k HF.out
          obtain ⟨L, hLt⟩ : ∃ L, L = letS k := ⟨_, rfl⟩
          rw [← hLt] at hc1
          have HLt := Lib.hid hLt
          clear hLt
          go_wp2_with fail
          go_loopw [4, 7] (fun s i wz => TIRel wr f k s i wz) (fun _ i _ => x.toNat - (intOf i).toNat)
          case atStart => exact ⟨0, rfl, by simp, by rw [← HX.out]; omega, rfl⟩
          case round =>
            obtain ⟨j, rfl, rfl, hj, rfl⟩ := hrel
            rw [← HX.out] at hj
            obtain ⟨S, hS⟩ : ∃ S : ByteArray, S = ⟨(lets f k ++ List.replicate j (letN k)).toArray⟩ := ⟨_, rfl⟩
            have hcat : ¬ 9223372036854775807 < S.size + L.size := by
              have h1 : S.size = (lets f k).length + j := by rw [hS, size_mk]; simp
              have h2 : L.size = 1 := by rw [HLt.out]; rfl
              omega
            have hv : strV (lets f k ++ List.replicate j (letN k)) = .string S := by rw [hS]; rfl
            rw [hv]
            have HS := Lib.hid hS
            clear hS hv
            by_cases hjx : (j : Int) < x
            · go_wp2_with fail
              go_roundw
              case rel => exact ⟨j + 1, by go_num, by rw [HS.out, HLt.out]; exact congrArg Value.string (rep_snoc _ _ _), by rw [← HX.out]; omega, rfl⟩
              case measure => simp [intOf]; omega
            · have hjx2 : (j : Int) = x := by omega
              clear hcat
              go_wp2_with fail
              go_roundw
              case rel => exact ⟨k + 1, by go_num, by rw [HS.out]; simp only [lets, ← HX.out, ← hjx2, Int.toNat_natCast]; rfl, by omega, HF.out.next (by rw [← HX.out]; exact hin), rfl⟩
              case measure => simp [intOf]; omega
        · have HB := Lib.hid (show ¬ Few f from fun h => hin (by rw [HX.out]; exact h k hlt))
          go_wp2_with fail
          go_ret2
          exact ⟨[], 3, .inr (.inl ⟨hg, HB.out, rfl, rfl⟩), rfl, hbw3⟩
      · obtain rfl : k = 5 := by omega
        have hc2 := HA.out.cell (show 5 < 6 by omega)
        obtain ⟨x0, x1⟩ := hg 5 (by omega)
        obtain ⟨x, hx⟩ : ∃ x, x = f 5 := ⟨_, rfl⟩
        obtain ⟨S, hS⟩ : ∃ S : ByteArray, S = ⟨(lets f 5).toArray⟩ := ⟨_, rfl⟩
        have hv : strV (lets f 5) = .string S := by rw [hS]; rfl
        rw [hv]
        rw [← hx] at hc2 x0 x1
        have HX := Lib.hid hx
        have HS := Lib.hid hS
        have b0 : (0 : Int) ≤ 5 := by omega
        have hlen := lets_len 5 HF.out
        clear hx hS hv
        by_cases hfig : f 5 ≠ 0 ∨ lets f 5 = []
        · have hT : figs f = Lib.decDigits x.toNat := by unfold figs; rw [if_pos hfig, ← HX.out]
          have hem : x = 0 → S.toList.isEmpty = true := by
            intro h
            rcases hfig with h2 | h2
            · rw [← HX.out] at h2; exact absurd h h2
            · rw [HS.out, toList_mk, h2]; rfl
          obtain ⟨n, rfl⟩ := Int.eq_ofNat_of_zero_le x0
          rw [Int.toNat_natCast] at hT
          have hn : n ≤ 1000 := by omega
          have hD := dig_len n
          obtain ⟨D, hDt⟩ : ∃ D : ByteArray, D = ⟨(Lib.decDigits n).toArray⟩ := ⟨_, rfl⟩
          have hcat : ¬ 9223372036854775807 < D.size + S.size := by
            rw [hDt, HS.out, size_mk, size_mk]; omega
          have hv : digV n = .string D := by rw [hDt]; rfl
          have HC := Lib.hid (show Value.string (D ++ S) = strV (textL f) by rw [hDt, HS.out, mk_append]; unfold strV textL; rw [hT]; simp)
          have hfg := fig_any n hn
          rw [hv] at hfg
          have HFG := Lib.hid hfg
          clear hDt hT hD hv hfg hfig
          by_cases hx0 : n = 0
          · have hemp : S.toList.isEmpty = true := hem (by rw [hx0]; rfl)
            clear hem
            subst hx0
            go_wp2_with fail
            refine (HFG.out _).mono ?_
            rintro e w6 ⟨rfl, hb6⟩
            go_wp2_with fail
            go_ret2
            exact ⟨textL f, 0, .inr (.inr ⟨hg, fewK_all HF.out, rfl, rfl⟩), by rw [← HC.out]; rfl, keepB hb6 hbw3⟩
          · have hx1 : 0 < n := by omega
            clear hem
            go_wp2_with fail
            refine (HFG.out _).mono ?_
            rintro e w6 ⟨rfl, hb6⟩
            go_wp2_with fail
            go_ret2
            exact ⟨textL f, 0, .inr (.inr ⟨hg, fewK_all HF.out, rfl, rfl⟩), by rw [← HC.out]; rfl, keepB hb6 hbw3⟩
        · have hx0 : x = 0 := by
            rw [HX.out]
            by_cases e : f 5 = 0
            · exact e
            · exact absurd (.inl e) hfig
          have hne : S.toList.isEmpty = false := by
            rw [HS.out, toList_mk]
            cases h : lets f 5 with
            | nil => exact absurd (.inr h) hfig
            | cons a l => rfl
          have HC := Lib.hid (show Value.string S = strV (textL f) by rw [HS.out]; unfold strV textL figs; rw [if_neg hfig]; rfl)
          subst hx0
          go_wp2_with fail
          go_ret2
          exact ⟨textL f, 0, .inr (.inr ⟨hg, fewK_all HF.out, rfl, rfl⟩), by rw [← HC.out]; rfl, hbw3⟩
  · refine (good_no (hgood _) hg).mono ?_
    rintro e w2 ⟨rfl, hb2⟩
    go_wp2_with fail
    go_ret2
    exact ⟨[], 2, .inl ⟨hg, rfl, rfl⟩, rfl, keepB hb2 hb1⟩
end Go.Proofs.YtammchaihangnaaDoor
