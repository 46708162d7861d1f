/- Layer 4: Text, of the landed code. -/
import Derived.Test.YtammchaihangnaaDoorManaD
import Derived.Test.YtammchaihangnaaDoorManaShelf
import Derived.Test.YtammchaihangnaaDoorTab
import Derived.Deep.DeepCutAuto
namespace Go.Proofs.YtammchaihangnaaDoor
open Go.RowKit Mx
attribute [local go_sem] arr_get
def pow10V : List Value := Lib.pow10Tab.map (Value.int .u64)
/-- The table of powers of ten stands there. -/
def TabT (z : World) : Prop := ∃ t, z.heap[1]? = some (.cells pow10V.toArray t (0, 0))
theorem TabT.keep {z w : World} (h : TabT z) (hb : Below z.heap.size z w) : TabT w := by
  obtain ⟨t, ht⟩ := h
  exact ⟨t, (hb.block _ (Array.getElem?_eq_some_iff.1 ht).1).trans ht⟩
theorem TabT.is {w : World} (h : TabT w) : Lib.TabIs Tryd.prog w "internal/strconv.uint64pow10" .u64 Lib.pow10Tab := by
  obtain ⟨t, ht⟩ := h
  have hg : Tryd.prog.globalNamed "internal/strconv.uint64pow10" = some 1 := by kernel_rfl
  unfold Lib.TabIs
  simp only [World.var?, hg, Option.bind_some, ht]
  rfl
open Go.Sort in
theorem below_grow (w : World) (k : Nat) (os : Array Obj) : Below w.heap.size w (grow (w.drewN k) os) :=
  ⟨rfl, rfl, rfl, by simp [grow], fun g hg => by simp only [grow]; rw [Array.getElem?_append_left (by exact hg)]; rfl⟩
theorem itoa_any {z : World} (T : TabT z) (n : Nat) (hn : n ≤ 1000) (w : World) (hz : Below z.heap.size z w) : Calls Tryd.prog 19 #[.int .i64 n] w fun e w' => e = .returned (digV n) ∧ Below w.heap.size w w' := by
  refine (Tryd.strconv_Itoa (n : Int) (by omega) (by omega) w (T.keep hz).is).mono ?_
  rintro e w' ⟨rfl, k, os, rfl⟩
  refine ⟨?_, below_grow _ _ _⟩
  unfold digV Lib.itoa
  rw [if_neg (by omega), Int.toNat_natCast]
theorem rep_one (b : UInt8) : ∀ n : Nat, Lib.repeatL [b] n = List.replicate n b
  | 0 => rfl
  | n + 1 => by simp [Lib.repeatL, rep_one b n, List.replicate_succ]
theorem repeat_let (k n : Nat) (hn : n ≤ 20) (w : World) : Calls Tryd.prog 20 #[.string (letS k), .int .i64 n] w fun e w' => e = .returned (strV (List.replicate n (letN k))) ∧ Below w.heap.size w w' := by
  have hs : (letS k).size = 1 := rfl
  refine (Tryd.strings_Repeat (letS k) n w (by omega) (by rw [hs]; omega)).mono ?_
  rintro e w' ⟨rfl, hb⟩
  refine ⟨?_, hb⟩
  have : (letS k).data.toList = [letN k] := rfl
  rw [this, rep_one]; rfl
theorem slice_let : ∀ k : Nat, k < 5 → ∀ w, (Instr.slice 9 (.string ⟨#[87, 85, 66, 82, 71]⟩) (some (.int .i64 (k : Int))) (some (.int .i64 ((k : Int) + 1))) none).run Tryd.prog w = .ok (.string (letS k)) w := by
  intro k hk
  have hc : k = 0 ∨ k = 1 ∨ k = 2 ∨ k = 3 ∨ k = 4 := by omega
  rcases hc with rfl | rfl | rfl | rfl | rfl
  · exact fun _ => by kernel_rfl
  · exact fun _ => by kernel_rfl
  · exact fun _ => by kernel_rfl
  · exact fun _ => by kernel_rfl
  · exact fun _ => by kernel_rfl
theorem load_want {P : Program} {ops : Array Oper} {rest : List Oper} {o : Oper} {a : Act} {w : World} {Q : Exit → Act → World → Prop} (hw : Region.wanted o (yielded ops a.tmps) = true) (ty : TypeId) (x : Operand) (ho : o.op = .load ty x)
    (g : Nat) (hx : a.eval x = .pointer (some ⟨g, 0, none⟩)) (t : TypeId) (cs : Array Value) (fr : Nat × Nat) (d : TypeDesc) (hg : w.heap[g]? = some (.cells cs t fr))
    (hu : P.underlying ty = some d) (hd : (match d with | .struct _ | .array _ _ => true | _ => false) = true) (hi : (P.info? ty).map (·.size) = some cs.size)
    (h : wpList P ops Q rest (a.put o.dst (.agg cs)) w) : wpList P ops Q (o :: rest) a w :=
  BigFrame.wpList_want hw fun _ hK => wp_load_row ty x ho g hx t cs fr d hg hu hd hi (hK _ _ h)
def CTRel (w2 : World) (f : Nat → Int) (fg : List UInt8) (s i : Value) (wr : World) : Prop := ∃ k : Nat, i = .int .i64 ((k : Nat) : Int) ∧ s = strV (fg ++ lets f k) ∧ k ≤ 5 ∧ FewK f k ∧ Below w2.heap.size w2 wr
set_option linter.unusedSimpArgs false in
set_option maxRecDepth 100000 in
set_option maxHeartbeats 1000000 in
theorem text_any {z : World} (T : TabT z) (f : Nat → Int) (w : World) (hw : Wide f) (hz : Below z.heap.size z w) : Calls Tryd.prog 15 #[.agg (arr .i64 6 f)] w (TextPost f errV w) := by
  have hsz : (Tryd.prog.info? 23).map (·.size) = some (arr .i64 6 f).size := by rw [arr_size]; exact size6
  go_enter Tryd.func15, Tryd.ntmps15
  go_upto_region 1 with fail
  obtain ⟨w1, hw1⟩ : ∃ w1, w1 = w.alloc (.cells (arr .i64 6 f) 23) := ⟨_, rfl⟩
  have ha : ArrAt .i64 6 23 w1 w.heap.size f := by rw [hw1]; exact ArrAt.new w .i64 6 23 f
  have hb1 : Below w.heap.size w w1 := by rw [hw1]; exact (Below.refl _ _).alloc (Nat.le_refl _) _
  rw [← hw1]
  clear hw1
  have hgood := fun W => good_any f W hw
  go_wp2_with (refine wpList_load_row rfl 23 (.tmp 1) rfl w.heap.size rfl 23 _ (0, 0) _ ha Tryd.underlying23 rfl hsz ?_)
  by_cases hg : GoodC f
  · refine (good_yes (hgood _) hg).mono ?_
    rintro e w2 ⟨rfl, hb2⟩
    have hA := ha.keep hb2
    have hbw := keepB hb2 hb1
    have hT := figs_when hg
    obtain ⟨B, hB⟩ : ∃ B : Bool, B = true ↔ (f 5 ≠ 0 ∨ lets f 5 = []) := by
      by_cases h : f 5 ≠ 0 ∨ lets f 5 = []
      · exact ⟨true, by simp [h]⟩
      · exact ⟨false, by simp [h]⟩
    have hBt : B = (f 5 != 0 || sumW f 6 == 0) := by
      rw [Bool.eq_iff_iff, hB, ← hT]
      simp only [Bool.or_eq_true, bne_iff_ne, beq_iff_eq]
    have HB := Lib.hid hB
    have HA := Lib.hid hA
    have hc5 := hA.cell (show 5 < 6 by omega)
    obtain ⟨x0, x1⟩ := hg 5 (by omega)
    obtain ⟨n, hn⟩ := Int.eq_ofNat_of_zero_le x0
    rw [hn] at hc5 x1 hBt
    have HN := Lib.hid hn
    have hzw := keepB hbw hz
    have htot := fun W => total_any f W hw
    obtain ⟨q, hq⟩ : ∃ q, sumW f 6 = q := ⟨_, rfl⟩
    rw [hq] at hBt htot
    have HTot := Lib.hid htot
    have HBt := Lib.hid hBt
    clear ha hb1 hb2 hgood hT hB hn hA htot hBt hq
    go_upto_region 4 with fail
    go_cut [17] (fun s17 wx => s17 = .bool B ∧ Below w2.heap.size w2 wx)
    case first =>
      by_cases h0 : n = 0
      · subst h0
        go_wp2_with (refine load_want (by rfl) 23 (.tmp 1) rfl w.heap.size rfl 23 _ (0, 0) _ HA.out Tryd.underlying23 rfl hsz ?_)
        refine (HTot.out _).mono ?_
        rintro e w3 ⟨rfl, hb3⟩
        go_wp2_with fail
        go_meet
        exact ⟨by rw [HBt.out]; rfl, hb3⟩
      · have hne : (((n : Nat) : Int) != 0) = true := by simp; exact h0
        go_wp2_with fail
        go_meet
        exact ⟨by rw [HBt.out, hne]; rfl, Below.refl _ _⟩
    case rest =>
      obtain ⟨rfl, hb3⟩ := hcut
      go_upto_if 17 with fail
      go_cut [4] (fun s4 wx => s4 = strV (figs f) ∧ Below w2.heap.size w2 wx)
      case first =>
        have hc5 := (HA.out.keep hb3).cell (show 5 < 6 by omega)
        rw [HN.out] at hc5
        cases hBc : B
        · go_wp2_with fail
          go_meet
          exact ⟨by
            have h : ¬ (f 5 ≠ 0 ∨ lets f 5 = []) := fun h => by have := HB.out.2 h; rw [hBc] at this; cases this
            unfold figs; rw [if_neg h]; rfl, hb3⟩
        · go_wp2_with fail
          refine (itoa_any T n (by omega) _ (keepB hb3 hzw)).mono ?_
          rintro e w4 ⟨rfl, hb4⟩
          go_wp2_with fail
          go_meet
          exact ⟨by
            have h := HB.out.1 hBc
            unfold figs; rw [if_pos h, HN.out, Int.toNat_natCast]; rfl, keepB hb4 hb3⟩
      case rest =>
        obtain ⟨rfl, hb4⟩ := hcut
        have hbw4 := keepB hb4 hbw
        have hgl : (figs f).length ≤ 1001 := by
          unfold figs; split
          · have := dig_len (f 5).toNat; rw [HN.out, Int.toNat_natCast] at this ⊢; omega
          · simp
        clear hb3 hc5
        go_wp2_with fail
        go_loopw [4, 21] (fun s i wr => CTRel w2 f (figs f) s i wr) (fun _ i _ => 5 - (intOf i).toNat)
        case atStart => exact ⟨0, rfl, by simp [lets], by omega, fun i hi => absurd hi (by omega), hb4⟩
        case round =>
          obtain ⟨k, rfl, rfl, hk, hf, hb⟩ := hrel
          have HF := Lib.hid hf
          clear hf
          by_cases hlt : k < 5
          · have hcell := (HA.out.keep hb).cell (show k < 6 by omega)
            obtain ⟨y0, y1⟩ := hg k (by omega)
            obtain ⟨m, hm⟩ := Int.eq_ofNat_of_zero_le y0
            rw [hm] at hcell y1
            have HM := Lib.hid hm
            have b0 : (0 : Int) ≤ (k : Int) := by omega
            have b1 : (k : Int) < 6 := by omega
            have b2 : (k : Int) < 5 := by omega
            clear hm
            by_cases hin : m ≤ 20
            · have hlen := lets_len k HF.out
              obtain ⟨S, hS⟩ : ∃ S : ByteArray, S = ⟨(figs f ++ lets f k).toArray⟩ := ⟨_, rfl⟩
              obtain ⟨R, hR⟩ : ∃ R : ByteArray, R = ⟨(List.replicate m (letN k)).toArray⟩ := ⟨_, rfl⟩
              have hcat : ¬ 9223372036854775807 < S.size + R.size := by
                have h1 : S.size = (figs f).length + (lets f k).length := by rw [hS, size_mk]; simp
                have h2 : R.size = m := by rw [hR, size_mk]; simp
                omega
              have hv : strV (figs f ++ lets f k) = .string S := by rw [hS]; rfl
              have hrep := repeat_let k m hin
              rw [show strV (List.replicate m (letN k)) = .string R by rw [hR]; rfl] at hrep
              rw [hv]
              have HSR := Lib.hid (show Value.string (S ++ R) = strV (figs f ++ lets f (k + 1)) by
                rw [hS, hR, mk_append]; unfold strV; simp only [lets, HM.out, Int.toNat_natCast]; simp)
              have HRep := Lib.hid hrep
              have hsl := slice_let k hlt
              have hs1 : IntKind.i64.wrap ((k : Int) + 1) = (k : Int) + 1 := i64_in (by omega) (by omega)
              have hcl : ∀ W, Below wr.heap.size wr W → W.cell? ⟨w.heap.size, k, none⟩ = some (.int .i64 (m : Int)) := fun W hW => by
                rw [← HM.out]; exact ((HA.out.keep hb).keep hW).cell (show k < 6 by omega)
              clear hS hR hv hrep
              go_upto_region 11 with fail
              refine region_below (by kernel_rfl) (fun hHeld => ?_)
              refine wpAnyH_take (i := 0) (v := ?_) rfl (by kernel_rfl) (by kernel_rfl) (by kernel_rfl) (fun _ _ _ h => h) (Or.inl ⟨by rfl, ?_⟩) hHeld ?_
              rotate_left
              · (intro w hSw; go_simp; (try with_reducible rfl))
              simp only [Act.put, List.getElem_toArray, List.getElem_cons_zero, List.getElem_cons_succ, List.setIfInBounds_toArray, List.set_cons_zero, List.set_cons_succ]
              refine wpAnyH_take (i := 1) (v := ?_) rfl (by kernel_rfl) (by kernel_rfl) (by kernel_rfl) (fun _ _ _ h => h) (Or.inl ⟨by rfl, ?_⟩) hHeld ?_
              rotate_left
              · (intro w hSw; go_simp; (try with_reducible rfl))
              simp only [Act.put, List.getElem_toArray, List.getElem_cons_zero, List.getElem_cons_succ, List.setIfInBounds_toArray, List.set_cons_zero, List.set_cons_succ]
              refine wpAnyH_take (i := 2) (v := ?_) rfl (by kernel_rfl) (by kernel_rfl) (by kernel_rfl) (fun _ _ _ h => h) (Or.inl ⟨by rfl, ?_⟩) hHeld ?_
              rotate_left
              · (intro w hSw; go_simp; (try with_reducible rfl))
              simp only [Act.put, List.getElem_toArray, List.getElem_cons_zero, List.getElem_cons_succ, List.setIfInBounds_toArray, List.set_cons_zero, List.set_cons_succ]
              refine wpAnyH_take (i := 3) (v := ?_) rfl (by kernel_rfl) (by kernel_rfl) (by kernel_rfl) (fun _ _ _ h => h) (Or.inl ⟨by rfl, ?_⟩) hHeld ?_
              rotate_left
              · (intro w hSw; go_simp; (try with_reducible rfl))
              simp only [Act.put, List.getElem_toArray, List.getElem_cons_zero, List.getElem_cons_succ, List.setIfInBounds_toArray, List.set_cons_zero, List.set_cons_succ]
              refine wpAnyH_take (i := 4) (v := ?_) rfl (by kernel_rfl) (by kernel_rfl) (by kernel_rfl) (fun _ _ _ h => h) (Or.inl ⟨by rfl, ?_⟩) hHeld ?_
              rotate_left
              · (intro w hSw; go_simp; (try with_reducible rfl))
              simp only [Act.put, List.getElem_toArray, List.getElem_cons_zero, List.getElem_cons_succ, List.setIfInBounds_toArray, List.set_cons_zero, List.set_cons_succ]
              refine wpAnyH_take (i := 5) (v := ?_) rfl (by kernel_rfl) (by kernel_rfl) (by kernel_rfl) (fun _ _ _ h => h) (Or.inl ⟨by rfl, ?_⟩) hHeld ?_
              rotate_left
              · (intro w hSw; go_simp; (try with_reducible rfl))
              simp only [Act.put, List.getElem_toArray, List.getElem_cons_zero, List.getElem_cons_succ, List.setIfInBounds_toArray, List.set_cons_zero, List.set_cons_succ]
              refine wpAnyH_take (i := 6) (v := ?_) rfl (by kernel_rfl) (by kernel_rfl) (by kernel_rfl) (fun _ _ _ h => h) (Or.inl ⟨by rfl, ?_⟩) hHeld ?_
              rotate_left
              · (intro w hSw; go_simp; (try with_reducible rfl))
              simp only [Act.put, List.getElem_toArray, List.getElem_cons_zero, List.getElem_cons_succ, List.setIfInBounds_toArray, List.set_cons_zero, List.set_cons_succ]
              refine wpAnyH_take (i := 7) (v := ?_) rfl (by kernel_rfl) (by kernel_rfl) (by kernel_rfl) (fun _ _ _ h => h) (Or.inl ⟨by rfl, ?_⟩) hHeld ?_
              rotate_left
              · (intro w hSw; go_simp; (try with_reducible rfl))
              simp only [Act.put, List.getElem_toArray, List.getElem_cons_zero, List.getElem_cons_succ, List.setIfInBounds_toArray, List.set_cons_zero, List.set_cons_succ]
              refine wpAnyH_ready (rs := [8]) (by kernel_rfl) (by simp) ?_
              refine AllReadyH.cons rfl (fun K hK => ?_) AllReadyH.nil
              simp only [List.getElem_toArray, List.getElem_cons_zero, List.getElem_cons_succ]
              go_simp
              refine (HRep.out _).mono ?_
              rintro e w7 ⟨rfl, hb7⟩
              go_wp2_with fail
              have hB7 := keepB hb7 hHeld
              refine hK.out _ _ hB7 (fun _ => ?_)
              clear hK K
              try simp only [Act.put, List.setIfInBounds_toArray, List.set_cons_zero, List.set_cons_succ]
              refine anyH_rebase hB7 (fun hHeld => ?_)
              refine wpAnyH_take (i := 9) (v := ?_) rfl (by kernel_rfl) (by kernel_rfl) (by kernel_rfl) (fun _ _ _ h => h) (Or.inl ⟨by rfl, ?_⟩) hHeld ?_
              rotate_left
              · (intro w hSw; go_simp; (try with_reducible rfl))
              simp only [Act.put, List.getElem_toArray, List.getElem_cons_zero, List.getElem_cons_succ, List.setIfInBounds_toArray, List.set_cons_zero, List.set_cons_succ]
              refine wpAnyH_take (i := 10) (v := ?_) rfl (by kernel_rfl) (by kernel_rfl) (by kernel_rfl) (fun _ _ _ h => h) (Or.inl ⟨by rfl, ?_⟩) hHeld ?_
              rotate_left
              · (intro w hSw; go_simp; (try with_reducible rfl))
              simp only [Act.put, List.getElem_toArray, List.getElem_cons_zero, List.getElem_cons_succ, List.setIfInBounds_toArray, List.set_cons_zero, List.set_cons_succ]
              refine wpAnyH_done (by kernel_rfl) ?_ _
              clear hHeld hcl hsl hcat hs1
              go_wp2_with fail
              go_roundw
              case rel => exact ⟨k + 1, by go_num, by rw [← HSR.out], by omega, HF.out.next (by rw [HM.out]; omega), keepB hB7 hb⟩
              case measure => simp [intOf]; omega
            · have HBd := Lib.hid (show ¬ Few f from fun h => hin (by have := h k hlt; rw [HM.out] at this; omega))
              go_wp2_with fail
              go_ret2
              exact ⟨[], 3, .inr (.inl ⟨hg, HBd.out, rfl, rfl⟩), rfl, keepB hb hbw⟩
          · obtain rfl : k = 5 := by omega
            go_wp2_with fail
            go_ret2
            exact ⟨textL f, 0, .inr (.inr ⟨hg, HF.out, rfl, rfl⟩), rfl, keepB hb hbw⟩
  · refine (good_no (hgood _) hg).mono ?_
    rintro e w2 ⟨rfl, hb2⟩
    go_wp2_with fail
    go_ret2
    exact ⟨[], 2, .inl ⟨hg, rfl, rfl⟩, rfl, keepB hb2 hb1⟩
end Go.Proofs.YtammchaihangnaaDoor
