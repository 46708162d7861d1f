/- Layer 9: the code's Deal. -/
import Derived.Test.YtcnfpjghjdmefaaLstC3
import Derived.Deep.OwnRows
namespace Go.Proofs.Ytcnfpjghjdmefaa
open Go.RowKit Ex
set_option maxRecDepth 100000
/-- A block of numbers reads as l. -/
def Ints (w : World) (g : Nat) (l : List Int) : Prop := w.heap[g]? = some (.cells (l.map (Value.int .i64)).toArray 3 (0, 0))
theorem Ints.at_ {w : World} {g : Nat} {l : List Int} (h : Ints w g l) {i : Nat} (hi : i < l.length) : w.cell? ⟨g, i, none⟩ = some (.int .i64 l[i]) := by
  rw [cell_of_row w g i _ _ _ h]; simp [hi]
theorem Ints.set_ {w : World} {g : Nat} {l : List Int} (h : Ints w g l) (i : Nat) (v : Int) : Ints (w.setCell ⟨g, i, none⟩ (.int .i64 v)) g (l.set i v) := by
  unfold Ints
  rw [heap_setCell_same w g i _ _ _ h]
  simp [List.map_set]
theorem Ints.keep {w w' : World} {g : Nat} {l : List Int} (h : Ints w g l) (hb : Below w.heap.size w w') : Ints w' g l := (hb.block g (Array.getElem?_eq_some_iff.1 h).1).trans h
theorem Ints.lt {w : World} {g : Nat} {l : List Int} (h : Ints w g l) : g < w.heap.size := (Array.getElem?_eq_some_iff.1 h).1
theorem Bools.lt {w : World} {g : Nat} {l : List Bool} (h : Bools w g l) : g < w.heap.size := (Array.getElem?_eq_some_iff.1 h).1
theorem Ints.new (W : World) (n : Nat) : Ints (W.alloc (.cells (madeCells #[Value.int .i64 0] n) 3)) W.heap.size (List.replicate n 0) := by
  have e : madeCells #[Value.int .i64 0] n = ((List.replicate n (0 : Int)).map (Value.int .i64)).toArray := by
    apply Array.ext
    · simp [madeCells]
    · intro i h1 h2; simp [madeCells, Nat.mod_one]
  unfold Ints
  rw [e]
  exact heap_alloc_new _ _
theorem Bools.new (W : World) (n : Nat) : Bools (W.alloc (.cells (madeCells #[Value.bool false] n) 4)) W.heap.size (List.replicate n false) := by
  have e : madeCells #[Value.bool false] n = ((List.replicate n false).map Value.bool).toArray := by
    apply Array.ext
    · simp [madeCells]
    · intro i h1 h2; simp [madeCells, Nat.mod_one]
  unfold Bools
  rw [e]
  exact heap_alloc_new _ _
theorem info_bool : (Try.prog.info? 4).map (fun i => (i.zero, i.size, i.bytes)) = some (some (.bool false), 1, 1) := by kernel_rfl
theorem make_ints (n : Nat) (hn : n ≤ 100000) (W : World) : (Instr.makeSlice 22 (.int .i64 (n : Int)) (.int .i64 (n : Int))).run Try.prog W = .ok (.slice (some ⟨W.heap.size, 0, none⟩) n n) (W.alloc (.cells (madeCells #[Value.int .i64 0] n) 3)) :=
  run_make_row' 22 3 (.int .i64 0) 8 Try.underlying22 info_int rfl .i64 .i64 n (by omega) (by omega) W
theorem make_bools (n : Nat) (hn : n ≤ 100000) (W : World) : (Instr.makeSlice 50 (.int .i64 (n : Int)) (.int .i64 (n : Int))).run Try.prog W = .ok (.slice (some ⟨W.heap.size, 0, none⟩) n n) (W.alloc (.cells (madeCells #[Value.bool false] n) 4)) :=
  run_make_row' 50 4 (.bool false) 1 Try.underlying50 info_bool rfl .i64 .i64 n (by omega) (by omega) W
/-- What has been laid when k places of the order are over. -/
structure DlS (w : World) (l o : List Int) (gd gt k : Nat) (dl : List Int) (tl : List Bool) (W : World) : Prop where
  d : Ints W gd dl
  t : Bools W gt tl
  ne : gd ≠ gt
  lo : w.heap.size ≤ gd ∧ w.heap.size ≤ gt
  b : Below w.heap.size w W
  dn : dl.length = l.length
  tn : tl.length = l.length
  dk : dl.take k = dealL l (o.take k)
  tk : ∀ i : Nat, i < l.length → (tl[i]? = some true ↔ (i : Int) ∈ o.take k)
theorem DlS.start {w W : World} {l o : List Int} {gd gt n : Nat} (hn : l.length = n) (hd : Ints W gd (List.replicate n 0)) (ht : Bools W gt (List.replicate n false)) (hne : gd ≠ gt) (h1 : w.heap.size ≤ gd) (h2 : w.heap.size ≤ gt) (hb : Below w.heap.size w W) :
    DlS w l o gd gt 0 (List.replicate n 0) (List.replicate n false) W :=
  ⟨hd, ht, hne, ⟨h1, h2⟩, hb, by simp [hn], by simp [hn], by simp [dealL], fun i hi => by simp [List.getElem?_replicate]⟩
theorem DlS.step {w W : World} {l o : List Int} {gd gt k : Nat} {dl : List Int} {tl : List Bool} (h : DlS w l o gd gt k dl tl W) (hk : k < l.length) {y : Nat} (hy : o[k]? = some (y : Int)) (hyl : y < l.length) :
    DlS w l o gd gt (k + 1) (dl.set k (l.getD y 0)) (tl.set y true) ((W.setCell ⟨gd, k, none⟩ (.int .i64 (l.getD y 0))).setCell ⟨gt, y, none⟩ (.bool true)) := by
  have hdn := h.dn
  have htn := h.tn
  have hko : k < o.length := (List.getElem?_eq_some_iff.1 hy).1
  have hyk : o[k] = (y : Int) := (List.getElem?_eq_some_iff.1 hy).2
  have ht1 : Bools (W.setCell ⟨gd, k, none⟩ (.int .i64 (l.getD y 0))) gt tl := (heap_setCell_other W ⟨gd, k, none⟩ gt _ (by simp; exact h.ne.symm)).trans h.t
  refine ⟨(heap_setCell_other _ ⟨gt, y, none⟩ gd _ (by simp; exact h.ne)).trans (h.d.set_ k _), ht1.set_ y true, h.ne, h.lo, (h.b.setCell h.lo.1 _).setCell h.lo.2 _, by simp [hdn], by simp [htn], ?_, fun i hi => ?_⟩
  · rw [List.take_succ_eq_append_getElem (by simp; omega), List.take_set_of_le (Nat.le_refl _), h.dk, List.getElem_set_self, List.take_succ_eq_append_getElem hko]
    unfold dealL
    rw [List.map_append, hyk]
    simp
  · rw [List.take_succ_eq_append_getElem hko, List.mem_append, hyk, List.getElem?_set]
    by_cases e : y = i
    · subst e
      rw [if_pos rfl, if_pos (by omega)]
      simp
    · rw [if_neg e, h.tk i hi]
      simp only [List.mem_singleton]
      exact ⟨.inl, fun h => h.elim id (fun e2 => absurd (Int.ofNat.inj e2).symm e)⟩
theorem DlS.keep {w W W' : World} {l o : List Int} {gd gt k : Nat} {dl : List Int} {tl : List Bool} (h : DlS w l o gd gt k dl tl W) (hb : Below W.heap.size W W') : DlS w l o gd gt k dl tl W' :=
  ⟨h.d.keep hb, h.t.keep hb, h.ne, h.lo, keepB hb h.b, h.dn, h.tn, h.dk, h.tk⟩
theorem DlS.mine {w W : World} {l o : List Int} {gd gt n : Nat} {dl : List Int} {tl : List Bool} (h : DlS w l o gd gt n dl tl W) (hn : l.length = n) (ho : o.length = n) : Mine W w.heap.size (some ⟨gd, 0, none⟩) n n (dealL l o) := by
  have e : dl = dealL l o := by
    have h1 := h.dk
    rwa [List.take_of_length_le (by rw [h.dn]; omega), List.take_of_length_le (by omega)] at h1
  refine ⟨⟨by rw [dealL, List.length_map]; omega, fun i u hu => ⟨_, rfl, h.d.lt, ?_⟩⟩, Nat.le_refl _, fun a ha => ⟨gd, 0, _, _, (Option.some.inj ha).symm, h.lo.1, h.d⟩⟩
  rw [Addr.add_mid, Nat.zero_add]
  rw [← e] at hu
  have hi := (List.getElem?_eq_some_iff.1 hu)
  rw [h.d.at_ hi.1, hi.2]
theorem DlS.full {w W : World} {l o : List Int} {gd gt n : Nat} {dl : List Int} {tl : List Bool} (h : DlS w l o gd gt n dl tl W) (hn : l.length = n) (ho : o.length = n) : false ∈ tl ↔ ¬ dealOk l.length o := by
  have htn := h.tn
  have hk := h.tk
  rw [List.take_of_length_le (by omega)] at hk
  constructor
  · intro hf hd
    obtain ⟨i, hi, e⟩ := List.mem_iff_getElem.1 hf
    have h1 := (hk i (by omega)).2 (hd.2 i (by omega))
    rw [List.getElem?_eq_getElem hi, e] at h1
    cases h1
  · intro hd
    apply Classical.byContradiction
    intro hf
    refine hd ⟨by omega, fun i hi => (hk i hi).1 ?_⟩
    rw [List.getElem?_eq_getElem (by omega)]
    cases hx : tl[i]'(by omega)
    · exact absurd (List.mem_iff_getElem.2 ⟨i, _, hx⟩) hf
    · rfl
set_option linter.unusedSimpArgs false in
set_option maxHeartbeats 2000000 in
theorem deal_code (A A2 : Option Addr) (n c n2 c2 : Nat) (l o : List Int) (w : World) (hL : LsIn w A n c l) (hL2 : LsIn w A2 n2 c2 o) : Calls Try.prog 19 #[.slice A n c, .slice A2 n2 c2] w (LstR (dealOk l.length o) (dealL l o) 2 w) := by
  have hln := hL.N.len
  have hln2 := hL2.N.len
  have hfew := hL.few
  have HL := Lib.hid hL
  have HL2 := Lib.hid hL2
  clear hL hL2
  by_cases hne : n = n2
  · subst hne
    have hb : ((n : Int) != (n : Int)) = false := by simp
    have mk1 := make_ints n (by omega)
    have mk2 := make_bools n (by omega)
    go_enter Try.func19, Try.ntmps19
    go_upto_region 3 with fail
    refine region_below (by kernel_rfl) (fun hHeld => ?_)
    refine wpAnyH_take (i := 0) (v := ?_) rfl (by kernel_rfl) (by kernel_rfl) (by kernel_rfl) (fun _ _ _ h => h) (Or.inl ⟨by rfl, ?_⟩) hHeld ?_
    rotate_left
    · (intro w hSw; go_simp; (try with_reducible rfl))
    simp only [Act.put, List.getElem_toArray, List.getElem_cons_zero, List.getElem_cons_succ, List.setIfInBounds_toArray, List.set_cons_zero, List.set_cons_succ]
    refine wpAnyH_take (i := 1) (v := ?_) rfl (by kernel_rfl) (by kernel_rfl) (by kernel_rfl) (fun _ _ _ h => h) (Or.inl ⟨by rfl, ?_⟩) hHeld ?_
    rotate_left
    · (intro w hSw; go_simp; (try with_reducible rfl))
    simp only [Act.put, List.getElem_toArray, List.getElem_cons_zero, List.getElem_cons_succ, List.setIfInBounds_toArray, List.set_cons_zero, List.set_cons_succ]
    refine wpAnyH_take (i := 3) (v := ?_) rfl (by kernel_rfl) (by kernel_rfl) (by kernel_rfl) (fun _ _ _ h => h) (Or.inl ⟨by rfl, ?_⟩) hHeld ?_
    rotate_left
    · (intro w hSw; go_simp; (try with_reducible rfl))
    simp only [Act.put, List.getElem_toArray, List.getElem_cons_zero, List.getElem_cons_succ, List.setIfInBounds_toArray, List.set_cons_zero, List.set_cons_succ]
    refine wpAnyH_take (i := 4) (v := ?_) rfl (by kernel_rfl) (by kernel_rfl) (by kernel_rfl) (fun _ _ _ h => h) (Or.inl ⟨by rfl, ?_⟩) hHeld ?_
    rotate_left
    · (intro w hSw; go_simp; (try with_reducible rfl))
    simp only [Act.put, List.getElem_toArray, List.getElem_cons_zero, List.getElem_cons_succ, List.setIfInBounds_toArray, List.set_cons_zero, List.set_cons_succ]
    generalize w.drew = W0 at hHeld ⊢
    refine wpAnyH_ready (rs := [2, 5]) (by kernel_rfl) (by simp) ?_
    refine AllReadyH.cons rfl (fun K hK => ?_) (AllReadyH.cons rfl (fun K hK => ?_) AllReadyH.nil)
    all_goals simp only [List.getElem_toArray, List.getElem_cons_zero, List.getElem_cons_succ]
    all_goals go_simp
    · have hB1 := below_alloc (w := W0) (.cells (madeCells #[Value.int .i64 0] n) 3)
      have hI := Ints.new W0 n
      obtain ⟨gd, hg⟩ : ∃ g, g = W0.heap.size := ⟨_, rfl⟩
      have hwd : w.heap.size ≤ gd := by rw [hg]; exact hHeld.size
      rw [← hg] at hI
      rw [← hg]
      obtain ⟨W1, hW⟩ : ∃ W, W = W0.alloc (.cells (madeCells #[Value.int .i64 0] n) 3) := ⟨_, rfl⟩
      rw [← hW] at hI hB1
      rw [← hW]
      clear hW hg
      have hH1 := keepB hB1 hHeld
      refine hK.out _ _ hH1 (fun _ => ?_)
      clear hK K
      try simp only [Act.put, List.setIfInBounds_toArray, List.set_cons_zero, List.set_cons_succ]
      refine anyH_rebase hH1 (fun hHeld => ?_)
      refine wpAnyH_take (i := 6) (v := ?_) rfl (by kernel_rfl) (by kernel_rfl) (by kernel_rfl) (fun _ _ _ h => h) (Or.inl ⟨by rfl, ?_⟩) hHeld ?_
      rotate_left
      · (intro w hSw; go_simp; (try with_reducible rfl))
      simp only [Act.put, List.getElem_toArray, List.getElem_cons_zero, List.getElem_cons_succ, List.setIfInBounds_toArray, List.set_cons_zero, List.set_cons_succ]
      refine wpAnyH_ready (rs := [5]) (by kernel_rfl) (by simp) ?_
      refine AllReadyH.cons rfl (fun K hK => ?_) AllReadyH.nil
      simp only [List.getElem_toArray, List.getElem_cons_zero, List.getElem_cons_succ]
      go_simp
      have hB2 := below_alloc (w := W1) (.cells (madeCells #[Value.bool false] n) 4)
      have hT := Bools.new W1 n
      obtain ⟨gt, hg⟩ : ∃ g, g = W1.heap.size := ⟨_, rfl⟩
      have hne : gd ≠ gt := by have := hI.lt; omega
      have hwt : w.heap.size ≤ gt := by rw [hg]; exact hH1.size
      rw [← hg] at hT
      rw [← hg]
      obtain ⟨W2, hW⟩ : ∃ W, W = W1.alloc (.cells (madeCells #[Value.bool false] n) 4) := ⟨_, rfl⟩
      rw [← hW] at hT hB2
      rw [← hW]
      clear hW hg
      have hH2 := keepB hB2 hH1
      have HS := Lib.hid (DlS.start (o := o) hln (hI.keep hB2) hT hne hwd hwt hH2)
      clear hI hT hne hwd hwt
      refine hK.out _ _ hB2 (fun _ => ?_)
      clear hK K
      try simp only [Act.put, List.setIfInBounds_toArray, List.set_cons_zero, List.set_cons_succ]
      refine anyH_rebase hB2 (fun hHeld => ?_)
      refine wpAnyH_take (i := 7) (v := ?_) rfl (by kernel_rfl) (by kernel_rfl) (by kernel_rfl) (fun _ _ _ h => h) (Or.inl ⟨by rfl, ?_⟩) hHeld ?_
      rotate_left
      · (intro w hSw; go_simp; (try with_reducible rfl))
      simp only [Act.put, List.getElem_toArray, List.getElem_cons_zero, List.getElem_cons_succ, List.setIfInBounds_toArray, List.set_cons_zero, List.set_cons_succ]
      refine wpAnyH_done (by kernel_rfl) ?_ _
      clear mk1 mk2 hHeld hH2 hH1 hB1 hB2
      go_upto_region 5 with fail
      go_loopw [24] (fun i wr => ∃ (k : Nat) (dl : List Int) (tl : List Bool), i = .int .i64 ((k : Nat) : Int) ∧ k ≤ n ∧ DlS w l o gd gt k dl tl wr ∧ Hid (∀ j : Nat, j < k → ∀ x, o[j]? = some x → Within n x)) (fun i _ => n - (intOf i).toNat)
      case atStart => exact ⟨0, _, _, rfl, by omega, HS.out, fun j hj => absurd hj (by omega)⟩
      case round =>
        obtain ⟨k, dl, tl, rfl, hk, hS, HF⟩ := hrel
        clear HS
        have HS := Lib.hid hS
        by_cases hlt : k < n
        · obtain ⟨a2, rfl, hab2, hc20⟩ := HL2.out.N.at_ (show k < o.length by omega)
          have hc2 := (hS.b.cell (by rw [addr_block]; exact hab2)).trans hc20
          obtain ⟨y, hy⟩ : ∃ y, y = o[k]'(by omega) := ⟨_, rfl⟩
          rw [← hy] at hc2
          have HY := Lib.hid (show o[k]? = some y by rw [hy]; exact List.getElem?_eq_getElem (by omega))
          have hd : decide ((k : Int) < (n : Int)) = true := by simp; omega
          have g0 : (0 : Int) ≤ (k : Int) := by omega
          have g1 : (k : Int) < (n : Int) := by omega
          clear hy hc20 hS
          have hhas := has_any A n c y wr
          by_cases hin : Within n y
          · rw [decide_eq_true hin] at hhas
            have HF2 := Lib.hid (show ∀ j : Nat, j < k + 1 → ∀ x, o[j]? = some x → Within n x from fun j hj x hx => by
              by_cases h : j = k
              · subst h; rw [HY.out] at hx; injection hx with hx; rw [← hx]; exact hin
              · exact HF.out j (by omega) x hx)
            obtain ⟨m, rfl⟩ : ∃ m : Nat, y = (m : Int) := ⟨y.toNat, by unfold Within at hin; omega⟩
            have hm : m < n := by unfold Within at hin; omega
            clear hin
            go_wp2_with fail
            refine hhas.mono ?_
            rintro e wz ⟨rfl, rfl⟩
            clear hhas
            obtain ⟨a, rfl, hab, hc0⟩ := HL.out.N.at_ (show m < l.length by omega)
            have hc1 := (HS.out.b.cell (by rw [addr_block]; exact hab)).trans hc0
            have hst := HS.out.step (by omega) HY.out (by omega)
            obtain ⟨v, hv⟩ : ∃ v, v = l.getD m 0 := ⟨_, rfl⟩
            rw [show l[m]'(by omega) = v by rw [hv, List.getD_eq_getElem?_getD, List.getElem?_eq_getElem (by omega)]; rfl] at hc1
            rw [← hv] at hst
            have g2 : (0 : Int) ≤ (m : Int) := by omega
            have g3 : (m : Int) < (n : Int) := by omega
            have q1 := HS.out.d.at_ (show k < dl.length by rw [HS.out.dn]; omega)
            have f1 : wz.frozen? ⟨gd, k, none⟩ = false := frozen_of_row wz gd k _ _ HS.out.d
            have q2 : (wz.setCell ⟨gd, k, none⟩ (.int .i64 v)).cell? ⟨gt, m, none⟩ = some (.bool (tl[m]'(by rw [HS.out.tn]; omega))) := by
              rw [World.cell?_setCell_other (h := by intro e; injection e with e1 e2; exact HS.out.ne e1)]
              exact HS.out.t.at_ _
            have f2 : (wz.setCell ⟨gd, k, none⟩ (.int .i64 v)).frozen? ⟨gt, m, none⟩ = false := frozen_of_row _ gt m _ _ ((heap_setCell_other wz ⟨gd, k, none⟩ gt _ (by simp; exact HS.out.ne.symm)).trans HS.out.t)
            generalize dl[k]'(_) = x1 at q1
            generalize tl[m]'(_) = x2 at q2
            have HST := Lib.hid hst
            clear hst hv hc0 hab
            go_wp2_with fail
            go_roundw
            case rel => exact ⟨k + 1, _, _, by go_num, by omega, HST.out, HF2⟩
            case measure => simp [intOf]; omega
          · rw [decide_eq_false hin] at hhas
            have HE := Lib.hid (show ¬ dealOk l.length o from fun h => hin (by
              have h2 := deal_in n o (by omega) (by rw [← hln]; exact h.2) y (List.mem_of_getElem? HY.out)
              exact h2))
            clear hin
            go_wp2_with fail
            refine hhas.mono ?_
            rintro e wz ⟨rfl, rfl⟩
            clear hhas
            go_wp2_with fail
            exact bodyPost_ret (results_tmp2 rfl _ _ _) rfl ⟨HS.out.b, .inr ⟨HE.out, _, _, rfl⟩⟩
        · obtain rfl : k = n := by omega
          have hd : decide ((k : Int) < (k : Int)) = false := by simp
          have hfb := firstB_any gt k k tl false wr hS.t (by rw [hS.tn]; omega) (by omega)
          have HFu := Lib.hid (hS.full hln hln2)
          have HMi := Lib.hid (hS.mine hln hln2)
          clear hS
          go_wp2_with fail
          refine hfb.mono ?_
          rintro e wz ⟨q, hq, rfl, rfl⟩
          clear hfb
          by_cases hq0 : 0 ≤ q
          · have d2 : decide (0 ≤ q) = true := decide_eq_true hq0
            have HE := Lib.hid (HFu.out.1 (hq.1 hq0))
            clear hq hq0
            go_wp2_with fail
            exact bodyPost_ret (results_tmp2 rfl _ _ _) rfl ⟨HS.out.b, .inr ⟨HE.out, _, _, rfl⟩⟩
          · have d2 : decide (0 ≤ q) = false := decide_eq_false hq0
            have HE := Lib.hid (show dealOk l.length o from Classical.byContradiction fun h => hq0 (hq.2 (HFu.out.2 h)))
            clear hq hq0
            go_wp2_with fail
            exact bodyPost_ret (results_tmp2 rfl _ _ _) rfl ⟨HS.out.b, .inl ⟨HE.out, _, _, _, rfl, HMi.out⟩⟩
    · have hB1 := below_alloc (w := W0) (.cells (madeCells #[Value.bool false] n) 4)
      have hI := Bools.new W0 n
      obtain ⟨gt, hg⟩ : ∃ g, g = W0.heap.size := ⟨_, rfl⟩
      have hwt : w.heap.size ≤ gt := by rw [hg]; exact hHeld.size
      rw [← hg] at hI
      rw [← hg]
      obtain ⟨W1, hW⟩ : ∃ W, W = W0.alloc (.cells (madeCells #[Value.bool false] n) 4) := ⟨_, rfl⟩
      rw [← hW] at hI hB1
      rw [← hW]
      clear hW hg
      have hH1 := keepB hB1 hHeld
      refine hK.out _ _ hH1 (fun _ => ?_)
      clear hK K
      try simp only [Act.put, List.setIfInBounds_toArray, List.set_cons_zero, List.set_cons_succ]
      refine anyH_rebase hH1 (fun hHeld => ?_)
      refine wpAnyH_ready (rs := [2]) (by kernel_rfl) (by simp) ?_
      refine AllReadyH.cons rfl (fun K hK => ?_) AllReadyH.nil
      simp only [List.getElem_toArray, List.getElem_cons_zero, List.getElem_cons_succ]
      go_simp
      have hB2 := below_alloc (w := W1) (.cells (madeCells #[Value.int .i64 0] n) 3)
      have hT := Ints.new W1 n
      obtain ⟨gd, hg⟩ : ∃ g, g = W1.heap.size := ⟨_, rfl⟩
      have hne : gd ≠ gt := by have := hI.lt; omega
      have hwd : w.heap.size ≤ gd := by rw [hg]; exact hH1.size
      rw [← hg] at hT
      rw [← hg]
      obtain ⟨W2, hW⟩ : ∃ W, W = W1.alloc (.cells (madeCells #[Value.int .i64 0] n) 3) := ⟨_, rfl⟩
      rw [← hW] at hT hB2
      rw [← hW]
      clear hW hg
      have hH2 := keepB hB2 hH1
      have HS := Lib.hid (DlS.start (o := o) hln hT (hI.keep hB2) hne hwd hwt hH2)
      clear hI hT hne hwd hwt
      refine hK.out _ _ hB2 (fun _ => ?_)
      clear hK K
      try simp only [Act.put, List.setIfInBounds_toArray, List.set_cons_zero, List.set_cons_succ]
      refine anyH_rebase hB2 (fun hHeld => ?_)
      refine wpAnyH_take (i := 6) (v := ?_) rfl (by kernel_rfl) (by kernel_rfl) (by kernel_rfl) (fun _ _ _ h => h) (Or.inl ⟨by rfl, ?_⟩) hHeld ?_
      rotate_left
      · (intro w hSw; go_simp; (try with_reducible rfl))
      simp only [Act.put, List.getElem_toArray, List.getElem_cons_zero, List.getElem_cons_succ, List.setIfInBounds_toArray, List.set_cons_zero, List.set_cons_succ]
      refine wpAnyH_take (i := 7) (v := ?_) rfl (by kernel_rfl) (by kernel_rfl) (by kernel_rfl) (fun _ _ _ h => h) (Or.inl ⟨by rfl, ?_⟩) hHeld ?_
      rotate_left
      · (intro w hSw; go_simp; (try with_reducible rfl))
      simp only [Act.put, List.getElem_toArray, List.getElem_cons_zero, List.getElem_cons_succ, List.setIfInBounds_toArray, List.set_cons_zero, List.set_cons_succ]
      refine wpAnyH_done (by kernel_rfl) ?_ _
      clear mk1 mk2 hHeld hH2 hH1 hB1 hB2
      go_upto_region 5 with fail
      go_loopw [24] (fun i wr => ∃ (k : Nat) (dl : List Int) (tl : List Bool), i = .int .i64 ((k : Nat) : Int) ∧ k ≤ n ∧ DlS w l o gd gt k dl tl wr ∧ Hid (∀ j : Nat, j < k → ∀ x, o[j]? = some x → Within n x)) (fun i _ => n - (intOf i).toNat)
      case atStart => exact ⟨0, _, _, rfl, by omega, HS.out, fun j hj => absurd hj (by omega)⟩
      case round =>
        obtain ⟨k, dl, tl, rfl, hk, hS, HF⟩ := hrel
        clear HS
        have HS := Lib.hid hS
        by_cases hlt : k < n
        · obtain ⟨a2, rfl, hab2, hc20⟩ := HL2.out.N.at_ (show k < o.length by omega)
          have hc2 := (hS.b.cell (by rw [addr_block]; exact hab2)).trans hc20
          obtain ⟨y, hy⟩ : ∃ y, y = o[k]'(by omega) := ⟨_, rfl⟩
          rw [← hy] at hc2
          have HY := Lib.hid (show o[k]? = some y by rw [hy]; exact List.getElem?_eq_getElem (by omega))
          have hd : decide ((k : Int) < (n : Int)) = true := by simp; omega
          have g0 : (0 : Int) ≤ (k : Int) := by omega
          have g1 : (k : Int) < (n : Int) := by omega
          clear hy hc20 hS
          have hhas := has_any A n c y wr
          by_cases hin : Within n y
          · rw [decide_eq_true hin] at hhas
            have HF2 := Lib.hid (show ∀ j : Nat, j < k + 1 → ∀ x, o[j]? = some x → Within n x from fun j hj x hx => by
              by_cases h : j = k
              · subst h; rw [HY.out] at hx; injection hx with hx; rw [← hx]; exact hin
              · exact HF.out j (by omega) x hx)
            obtain ⟨m, rfl⟩ : ∃ m : Nat, y = (m : Int) := ⟨y.toNat, by unfold Within at hin; omega⟩
            have hm : m < n := by unfold Within at hin; omega
            clear hin
            go_wp2_with fail
            refine hhas.mono ?_
            rintro e wz ⟨rfl, rfl⟩
            clear hhas
            obtain ⟨a, rfl, hab, hc0⟩ := HL.out.N.at_ (show m < l.length by omega)
            have hc1 := (HS.out.b.cell (by rw [addr_block]; exact hab)).trans hc0
            have hst := HS.out.step (by omega) HY.out (by omega)
            obtain ⟨v, hv⟩ : ∃ v, v = l.getD m 0 := ⟨_, rfl⟩
            rw [show l[m]'(by omega) = v by rw [hv, List.getD_eq_getElem?_getD, List.getElem?_eq_getElem (by omega)]; rfl] at hc1
            rw [← hv] at hst
            have g2 : (0 : Int) ≤ (m : Int) := by omega
            have g3 : (m : Int) < (n : Int) := by omega
            have q1 := HS.out.d.at_ (show k < dl.length by rw [HS.out.dn]; omega)
            have f1 : wz.frozen? ⟨gd, k, none⟩ = false := frozen_of_row wz gd k _ _ HS.out.d
            have q2 : (wz.setCell ⟨gd, k, none⟩ (.int .i64 v)).cell? ⟨gt, m, none⟩ = some (.bool (tl[m]'(by rw [HS.out.tn]; omega))) := by
              rw [World.cell?_setCell_other (h := by intro e; injection e with e1 e2; exact HS.out.ne e1)]
              exact HS.out.t.at_ _
            have f2 : (wz.setCell ⟨gd, k, none⟩ (.int .i64 v)).frozen? ⟨gt, m, none⟩ = false := frozen_of_row _ gt m _ _ ((heap_setCell_other wz ⟨gd, k, none⟩ gt _ (by simp; exact HS.out.ne.symm)).trans HS.out.t)
            generalize dl[k]'(_) = x1 at q1
            generalize tl[m]'(_) = x2 at q2
            have HST := Lib.hid hst
            clear hst hv hc0 hab
            go_wp2_with fail
            go_roundw
            case rel => exact ⟨k + 1, _, _, by go_num, by omega, HST.out, HF2⟩
            case measure => simp [intOf]; omega
          · rw [decide_eq_false hin] at hhas
            have HE := Lib.hid (show ¬ dealOk l.length o from fun h => hin (by
              have h2 := deal_in n o (by omega) (by rw [← hln]; exact h.2) y (List.mem_of_getElem? HY.out)
              exact h2))
            clear hin
            go_wp2_with fail
            refine hhas.mono ?_
            rintro e wz ⟨rfl, rfl⟩
            clear hhas
            go_wp2_with fail
            exact bodyPost_ret (results_tmp2 rfl _ _ _) rfl ⟨HS.out.b, .inr ⟨HE.out, _, _, rfl⟩⟩
        · obtain rfl : k = n := by omega
          have hd : decide ((k : Int) < (k : Int)) = false := by simp
          have hfb := firstB_any gt k k tl false wr hS.t (by rw [hS.tn]; omega) (by omega)
          have HFu := Lib.hid (hS.full hln hln2)
          have HMi := Lib.hid (hS.mine hln hln2)
          clear hS
          go_wp2_with fail
          refine hfb.mono ?_
          rintro e wz ⟨q, hq, rfl, rfl⟩
          clear hfb
          by_cases hq0 : 0 ≤ q
          · have d2 : decide (0 ≤ q) = true := decide_eq_true hq0
            have HE := Lib.hid (HFu.out.1 (hq.1 hq0))
            clear hq hq0
            go_wp2_with fail
            exact bodyPost_ret (results_tmp2 rfl _ _ _) rfl ⟨HS.out.b, .inr ⟨HE.out, _, _, rfl⟩⟩
          · have d2 : decide (0 ≤ q) = false := decide_eq_false hq0
            have HE := Lib.hid (show dealOk l.length o from Classical.byContradiction fun h => hq0 (hq.2 (HFu.out.2 h)))
            clear hq hq0
            go_wp2_with fail
            exact bodyPost_ret (results_tmp2 rfl _ _ _) rfl ⟨HS.out.b, .inl ⟨HE.out, _, _, _, rfl, HMi.out⟩⟩
  · have hb : ((n2 : Int) != (n : Int)) = true := by simp; omega
    have HE := Lib.hid (show ¬ dealOk l.length o from fun h => hne (by have := h.1; omega))
    clear hne
    go_enter Try.func19, Try.ntmps19
    go_wp2_with fail
    exact bodyPost_ret (results_tmp2 rfl _ _ _) rfl ⟨Below.refl _ _, .inr ⟨HE.out, _, _, rfl⟩⟩
end Go.Proofs.Ytcnfpjghjdmefaa
