/- Layer 8: the reference's Card: 100 to 111. -/
import Derived.Test.YtplfblccaeligaaDoorShG5
namespace Go.Proofs.YtplfblccaeligaaDoor
open Go.RowKit Ex Mx
def spRow (r : List Int) : Prop := r.length % 4 = 2 ∧ 14 ≤ r.length ∧ r.length ≤ 400 ∧ r.getD 7 0 < 6 ∧ ∀ x ∈ r, -9223372036854775808 ≤ x ∧ x ≤ 9223372036854775807
instance (r : List Int) : Decidable (spRow r) := by unfold spRow; infer_instance
theorem special_rows : ∀ r ∈ specialL, spRow r := by decide
/-- Block b lies as it lay. -/
def SameB (b : Nat) (w W : World) : Prop := W.heap[b]? = w.heap[b]?
theorem wide_five {x : Int} (hx : In64 x) : Wide (updI noC 5 x) := fun i hi => by
  show _ ≤ updI noC 5 x i ∧ updI noC 5 x i ≤ _
  unfold updI noC
  split
  · exact hx
  · simp
theorem FS.grown {w W W8 : World} {P k cc : Nat} {c : CardT} {A : Option Addr} {own : Option Nat} (h : FS w P c A k cc W) (hg : W.grownBy W8 own) (ho : ∀ g, own = some g → P + 1 ≤ g) : FS w P c A k cc W8 := by
  have hPl := h.cd.lt
  have hne : ∀ j, j < P + 1 → some j ≠ own := fun j hj e => by have := ho j e.symm; omega
  have hlt := h.lt
  exact ⟨(hg.block P hPl (hne P (by omega))).trans h.cd, (hg.block _ h.z.lt (hne _ (by omega))).trans h.z,
    ⟨hg.os.trans h.b.os, hg.tape.trans h.b.tape, hg.output.trans h.b.output, Nat.le_trans h.b.size hg.size, fun j hj => (hg.block j (by have := h.z.lt; omega) (hne j (by omega))).trans (h.b.block j hj)⟩, h.lt⟩
/-- One more ability behind the list: the operation alone. -/
theorem wp_appA {o : Oper} {a : Act} {w : World} {K : Act → World → Prop} {Q : Exit → Act → World → Prop} (s x : Operand)
    (ho : o.op = .call { callee := .builtin .append, args := #[s, x], argTypes := #[53, 53] })
    (base d : Nat) (A : Option Addr) (n c : Nat) (ts : List AbT) (hs : a.eval s = .slice A n c) (h : OwnA w base d A n c ts)
    (g c2 : Nat) (xs : Array Value) (hx : a.eval x = .slice (some ⟨g, 0, none⟩) 1 c2) (hg : AbAt w g xs) (t : AbT)
    (hr : ReadsAQ (fun b => base ≤ b ∧ b < w.heap.size ∧ some b ≠ (Value.slice A n c).ownBlock) w d xs t) (hn : n ≤ 1000) (hbase : base ≤ w.heap.size)
    (hK : ∀ A' c' w', OwnA w' base d A' (n + 1) c' (ts ++ [t]) → w.grownBy w' (Value.slice A n c).ownBlock → K (a.put o.dst (.slice A' (n + 1) c')) w') : o.wp Tryd.prog a w K Q := by
  obtain ⟨i0, hi, hz0, hz1, hz2⟩ := info_parts info_ab
  obtain ⟨⟨css, h1, h2, h3, h4⟩, h5⟩ := h
  have hxs := hr.size
  obtain ⟨v', w', hrun, hown, hgr, _, hat⟩ := run_append_own_at (P := Tryd.prog) w base 53 o.type 79 i0 _ 14 128 Tryd.underlying53 hi hz0 hz1 hz2 rfl (by omega) _ n (flatC css) h3 ⟨g, 0, none⟩ 1 c2 xs.toList (by rw [Array.length_toList, hxs])
    (fun j u hj => by rw [Addr.add_mid, Nat.zero_add, hg.cell, ← Array.getElem?_toList]; exact hj) hr.one (by unfold maxLen; omega) (by omega) hbase
  rw [← flatC_snoc] at hown
  have hform : ∃ A' c', v' = .slice A' (n + 1) c' := by
    rcases hown.2 with ⟨rfl, hz⟩ | ⟨g', cap, _, rfl, _⟩
    · omega
    · exact ⟨_, _, rfl⟩
  obtain ⟨A', c', rfl⟩ := hform
  have hsz := hgr.size
  have hfin := hK A' c' w' ⟨⟨css ++ [xs], by simp [h1], fun cs hc => by
      rcases List.mem_append.1 hc with hc | hc
      · exact h2 cs hc
      · simp at hc; subst hc; exact hxs, hown, fun i t2 cs ht hc => by
      have hq : ReadsAQ (fun b => base ≤ b ∧ b < w.heap.size ∧ some b ≠ (Value.slice A n c).ownBlock) w d cs t2 := by
        by_cases e : i < ts.length
        · rw [List.getElem?_append_left e] at ht
          rw [List.getElem?_append_left (by omega)] at hc
          exact h4 i t2 cs ht hc
        · rw [List.getElem?_append_right (by omega)] at ht hc
          rw [h1] at hc
          cases hk : i - ts.length with
          | zero =>
            rw [hk] at ht hc
            simp at ht hc
            subst ht; subst hc
            exact hr
          | succ k => rw [hk] at ht; simp at ht
      refine hq.keep (fun b hb => hgr.block b hb.2.1 hb.2.2) (fun b hb => ⟨hb.1, by omega, ?_⟩)
      rcases hat with hat | hat
      · rw [hat]; exact hb.2.2
      · rw [hat]; simp; omega⟩, by simp [h5]⟩ hgr
  unfold Oper.wp execOp
  simp only [ho, resolve, invoke, builtin, Sem.run_bind, Sem.run_pure, Result.andThen_ok, List.map_toArray, List.map_cons, List.map_nil, hs, hx, hrun]
  exact hfin
set_option linter.unusedSimpArgs false in
set_option maxRecDepth 100000 in
set_option maxHeartbeats 1000000 in
theorem cardRef_special (n : Nat) (w : World) (h0 : 100 ≤ n) (h1 : n < 112) : Calls Tryd.prog 22 #[.int .i64 (n : Int)] w (CardQ (tblC n) (.bool true) w) := by
  have d0 : decide ((n : Int) < 0) = false := by simp
  have d1 : decide ((119 : Int) < (n : Int)) = false := by simp; omega
  have d2 : decide ((n : Int) < 5) = false := by simp; omega
  have d3 : decide ((n : Int) < 10) = false := by simp; omega
  have d4 : decide ((n : Int) < 50) = false := by simp; omega
  have d5 : decide ((n : Int) < 80) = false := by simp; omega
  have d6 : decide ((n : Int) < 100) = false := by simp; omega
  have d7 : decide ((n : Int) < 112) = true := by simp; omega
  go_enter Tryd.func22, Tryd.ntmps22
  go_upto_region 4 with fail
  obtain ⟨w1, hw1⟩ : ∃ w1, w1 = (w.alloc (.cells zeroD 55)).alloc (.cells lit5 55) := ⟨_, rfl⟩
  have HS1 := Lib.hid (show FS w (w.heap.size + 1) colour5 none 0 0 w1 from by
    rw [hw1]
    refine ⟨?_, ?_, ((Below.refl _ _).alloc (Nat.le_refl _) _).alloc (by simp) _, Nat.lt_succ_self _⟩
    · have := CdAt.new (w.alloc (.cells zeroD 55)) lit5
      rw [← lit5_card]
      simpa using this
    · exact (CdAt.new w zeroD).keep ((Below.refl _ _).alloc (Nat.le_refl _) _))
  rw [← hw1]
  clear hw1
  obtain ⟨P, hP⟩ : ∃ P, P = w.heap.size + 1 := ⟨_, rfl⟩
  rw [← hP] at HS1 ⊢
  clear hP
  obtain ⟨m, hm⟩ : ∃ m, m = n - 100 := ⟨_, rfl⟩
  have HT := Lib.hid (show tblC n = ⟨(specialL.getD m []).getD 0 0, 5, (specialL.getD m []).getD 2 0 == 1, updI noC 5 ((specialL.getD m []).getD 1 0), (specialL.getD m []).getD 3 0,
    (specialL.getD m []).getD 4 0, (specialL.getD m []).getD 5 0, abL ((specialL.getD m []).drop 6) :: (if n = 108 then [giveA 2 5] else [])⟩ by
    unfold tblC
    rw [if_neg (by omega), if_neg (by omega), if_neg (by omega), if_neg (by omega), if_neg (by omega), if_pos h1, ← hm])
  have vm : IntKind.i64.wrap ((n : Int) - 100) = (m : Int) := by rw [i64_in (by omega) (by omega)]; omega
  have hm12 : m < 12 := by omega
  go_upto_region 45 with fail
  clear d0 d1 d2 d3 d4 d5 d6 d7 hm h0 h1
  go_wp2_with fail
  refine (specialRef_any w1).mono ?_
  rintro e w2 ⟨A4, rfl, hrows, hb2⟩
  have HS2 := Lib.hid (HS1.out.keep hb2)
  have HPw := Lib.hid HS1.out.cd.lt
  have hlen : specialL.length = 12 := rfl
  have hmem := List.getElem?_eq_getElem (show m < specialL.length by omega)
  obtain ⟨r, hr⟩ : ∃ r, r = specialL[m]'(by omega) := ⟨_, rfl⟩
  rw [← hr] at hmem
  obtain ⟨_, b, hbb, hcell, hNr⟩ := hrows m r hmem
  have HGet := Lib.hid (show specialL.getD m [] = r by rw [List.getD_eq_getElem?_getD, hmem]; rfl)
  have HRow := Lib.hid (special_rows r (by rw [hr]; exact List.getElem_mem _))
  obtain ⟨rl, rm, ru, rc, rb⟩ := HRow.out
  rw [hlen]
  have l0 : (0 : Int) ≤ (m : Int) := by omega
  have l1 : (m : Int) < 12 := by omega
  have HbP := Lib.hid (show b ≠ P ∧ b < w2.heap.size from ⟨by have := HPw.out; omega, (nums_cell hNr 0 (by omega)).1⟩)
  have HN := Lib.hid hNr
  have rd : ∀ i, i < r.length → ∀ W, SameB b w2 W → W.cell? ⟨b, i, none⟩ = some (.int .i64 (r.getD i 0)) := fun i hi W hW => by
    have h := (nums_cell hNr i hi).2
    rw [Nat.zero_add] at h
    exact (World.cell?_of_block (show W.heap[(⟨b, i, none⟩ : Addr).block]? = w2.heap[(⟨b, i, none⟩ : Addr).block]? from hW)).trans h
  have HRd := Lib.hid rd
  obtain ⟨x0, e0⟩ : ∃ x, x = r.getD 0 0 := ⟨_, rfl⟩
  obtain ⟨x1, e1⟩ : ∃ x, x = r.getD 1 0 := ⟨_, rfl⟩
  obtain ⟨x2, e2⟩ : ∃ x, x = r.getD 2 0 := ⟨_, rfl⟩
  obtain ⟨x3, e3⟩ : ∃ x, x = r.getD 3 0 := ⟨_, rfl⟩
  obtain ⟨x4, e4⟩ : ∃ x, x = r.getD 4 0 := ⟨_, rfl⟩
  obtain ⟨x5, e5⟩ : ∃ x, x = r.getD 5 0 := ⟨_, rfl⟩
  have HIn := Lib.hid (show In64 x0 ∧ In64 x1 ∧ In64 x3 ∧ In64 x4 ∧ In64 x5 by rw [e0, e1, e3, e4, e5]; exact ⟨getD_in rb _, getD_in rb _, getD_in rb _, getD_in rb _, getD_in rb _⟩)
  have HT2 := Lib.hid (show tblC n = ⟨x0, 5, x2 == 1, updI noC 5 x1, x3, x4, x5, abL (r.drop 6) :: (if n = 108 then [giveA 2 5] else [])⟩ by rw [HT.out, HGet.out, ← e0, ← e1, ← e2, ← e3, ← e4, ← e5])
  have r0 : ∀ W, SameB b w2 W → W.cell? ⟨b, 0, none⟩ = some (.int .i64 x0) := fun W hW => by rw [e0]; exact rd 0 (by omega) W hW
  have R1 := Lib.hid (show ∀ W, SameB b w2 W → W.cell? ⟨b, 1, none⟩ = some (.int .i64 x1) from fun W hW => by rw [e1]; exact rd 1 (by omega) W hW)
  have r2 : ∀ W, SameB b w2 W → W.cell? ⟨b, 2, none⟩ = some (.int .i64 x2) := fun W hW => by rw [e2]; exact rd 2 (by omega) W hW
  have r3 : ∀ W, SameB b w2 W → W.cell? ⟨b, 3, none⟩ = some (.int .i64 x3) := fun W hW => by rw [e3]; exact rd 3 (by omega) W hW
  have r4 : ∀ W, SameB b w2 W → W.cell? ⟨b, 4, none⟩ = some (.int .i64 x4) := fun W hW => by rw [e4]; exact rd 4 (by omega) W hW
  have r5 : ∀ W, SameB b w2 W → W.cell? ⟨b, 5, none⟩ = some (.int .i64 x5) := fun W hW => by rw [e5]; exact rd 5 (by omega) W hW
  have n0 : 0 < r.length := by omega
  have n2 : (2 : Int) < (r.length : Int) := by omega
  have n3 : (3 : Int) < (r.length : Int) := by omega
  have n4 : (4 : Int) < (r.length : Int) := by omega
  have n5 : (5 : Int) < (r.length : Int) := by omega
  clear hr hmem hrows hlen hb2 hNr rd e0 e1 e2 e3 e4 e5 rb
  go_upto_region 46 with fail
  clear hcell l0 l1 vm
  refine wp_region_held_drew (S := fun W => SameB b w2 W) (by kernel_rfl) (show w2.drew.heap[b]? = w2.heap[b]? from rfl) (fun hHeld => ?_)
  refine wpAnyH_take (i := 0) (v := ?_) rfl (by kernel_rfl) (by kernel_rfl) (by kernel_rfl) (fun _ _ _ h => h) (Or.inl ⟨by rfl, ?_⟩) hHeld ?_
  rotate_left
  · (intro w hSw; go_simp; (try with_reducible rfl))
  simp only [Act.put, List.getElem_toArray, List.getElem_cons_zero, List.getElem_cons_succ, List.setIfInBounds_toArray, List.set_cons_zero, List.set_cons_succ]
  refine wpAnyH_take (i := 1) (v := ?_) rfl (by kernel_rfl) (by kernel_rfl) (by kernel_rfl) (fun _ _ _ h => h) (Or.inl ⟨by rfl, ?_⟩) hHeld ?_
  rotate_left
  · (intro w hSw; go_simp; (try with_reducible rfl))
  simp only [Act.put, List.getElem_toArray, List.getElem_cons_zero, List.getElem_cons_succ, List.setIfInBounds_toArray, List.set_cons_zero, List.set_cons_succ]
  refine wpAnyH_take (i := 2) (v := ?_) rfl (by kernel_rfl) (by kernel_rfl) (by kernel_rfl) (fun _ _ _ h => h) (Or.inl ⟨by rfl, ?_⟩) hHeld ?_
  rotate_left
  · (intro w hSw; go_simp; (try with_reducible rfl))
  simp only [Act.put, List.getElem_toArray, List.getElem_cons_zero, List.getElem_cons_succ, List.setIfInBounds_toArray, List.set_cons_zero, List.set_cons_succ]
  refine wpAnyH_take (i := 3) (v := ?_) rfl (by kernel_rfl) (by kernel_rfl) (by kernel_rfl) (fun _ _ _ h => h) (Or.inl ⟨by rfl, ?_⟩) hHeld ?_
  rotate_left
  · (intro w hSw; go_simp; (try with_reducible rfl))
  simp only [Act.put, List.getElem_toArray, List.getElem_cons_zero, List.getElem_cons_succ, List.setIfInBounds_toArray, List.set_cons_zero, List.set_cons_succ]
  refine wpAnyH_take (i := 4) (v := ?_) rfl (by kernel_rfl) (by kernel_rfl) (by kernel_rfl) (fun _ _ _ h => h) (Or.inl ⟨by rfl, ?_⟩) hHeld ?_
  rotate_left
  · (intro w hSw; go_simp; (try with_reducible rfl))
  simp only [Act.put, List.getElem_toArray, List.getElem_cons_zero, List.getElem_cons_succ, List.setIfInBounds_toArray, List.set_cons_zero, List.set_cons_succ]
  refine wpAnyH_take (i := 5) (v := ?_) rfl (by kernel_rfl) (by kernel_rfl) (by kernel_rfl) (fun _ _ _ h => h) (Or.inl ⟨by rfl, ?_⟩) hHeld ?_
  rotate_left
  · (intro w hSw; go_simp; (try with_reducible rfl))
  simp only [Act.put, List.getElem_toArray, List.getElem_cons_zero, List.getElem_cons_succ, List.setIfInBounds_toArray, List.set_cons_zero, List.set_cons_succ]
  refine wpAnyH_take (i := 6) (v := ?_) rfl (by kernel_rfl) (by kernel_rfl) (by kernel_rfl) (fun _ _ _ h => h) (Or.inl ⟨by rfl, ?_⟩) hHeld ?_
  rotate_left
  · (intro w hSw; go_simp; (try with_reducible rfl))
  simp only [Act.put, List.getElem_toArray, List.getElem_cons_zero, List.getElem_cons_succ, List.setIfInBounds_toArray, List.set_cons_zero, List.set_cons_succ]
  refine wpAnyH_take (i := 7) (v := ?_) rfl (by kernel_rfl) (by kernel_rfl) (by kernel_rfl) (fun _ _ _ h => h) (Or.inl ⟨by rfl, ?_⟩) hHeld ?_
  rotate_left
  · (intro w hSw; go_simp; (try with_reducible rfl))
  simp only [Act.put, List.getElem_toArray, List.getElem_cons_zero, List.getElem_cons_succ, List.setIfInBounds_toArray, List.set_cons_zero, List.set_cons_succ]
  refine wpAnyH_take (i := 8) (v := ?_) rfl (by kernel_rfl) (by kernel_rfl) (by kernel_rfl) (fun _ _ _ h => h) (Or.inl ⟨by rfl, ?_⟩) hHeld ?_
  rotate_left
  · (intro w hSw; go_simp; (try with_reducible rfl))
  simp only [Act.put, List.getElem_toArray, List.getElem_cons_zero, List.getElem_cons_succ, List.setIfInBounds_toArray, List.set_cons_zero, List.set_cons_succ]
  refine wpAnyH_take (i := 9) (v := ?_) rfl (by kernel_rfl) (by kernel_rfl) (by kernel_rfl) (fun _ _ _ h => h) (Or.inl ⟨by rfl, ?_⟩) hHeld ?_
  rotate_left
  · (intro w hSw; go_simp; (try with_reducible rfl))
  simp only [Act.put, List.getElem_toArray, List.getElem_cons_zero, List.getElem_cons_succ, List.setIfInBounds_toArray, List.set_cons_zero, List.set_cons_succ]
  refine wpAnyH_take (i := 10) (v := ?_) rfl (by kernel_rfl) (by kernel_rfl) (by kernel_rfl) (fun _ _ _ h => h) (Or.inl ⟨by rfl, ?_⟩) hHeld ?_
  rotate_left
  · (intro w hSw; go_simp; (try with_reducible rfl))
  simp only [Act.put, List.getElem_toArray, List.getElem_cons_zero, List.getElem_cons_succ, List.setIfInBounds_toArray, List.set_cons_zero, List.set_cons_succ]
  refine wpAnyH_take (i := 11) (v := ?_) rfl (by kernel_rfl) (by kernel_rfl) (by kernel_rfl) (fun _ _ _ h => h) (Or.inl ⟨by rfl, ?_⟩) hHeld ?_
  rotate_left
  · (intro w hSw; go_simp; (try with_reducible rfl))
  simp only [Act.put, List.getElem_toArray, List.getElem_cons_zero, List.getElem_cons_succ, List.setIfInBounds_toArray, List.set_cons_zero, List.set_cons_succ]
  refine wpAnyH_take (i := 12) (v := ?_) rfl (by kernel_rfl) (by kernel_rfl) (by kernel_rfl) (fun _ _ _ h => h) (Or.inl ⟨by rfl, ?_⟩) hHeld ?_
  rotate_left
  · (intro w hSw; go_simp; (try with_reducible rfl))
  simp only [Act.put, List.getElem_toArray, List.getElem_cons_zero, List.getElem_cons_succ, List.setIfInBounds_toArray, List.set_cons_zero, List.set_cons_succ]
  refine wpAnyH_take (i := 13) (v := ?_) rfl (by kernel_rfl) (by kernel_rfl) (by kernel_rfl) (fun _ _ _ h => h) (Or.inl ⟨by rfl, ?_⟩) hHeld ?_
  rotate_left
  · (intro w hSw; go_simp; (try with_reducible rfl))
  simp only [Act.put, List.getElem_toArray, List.getElem_cons_zero, List.getElem_cons_succ, List.setIfInBounds_toArray, List.set_cons_zero, List.set_cons_succ]
  refine wpAnyH_take (i := 14) (v := ?_) rfl (by kernel_rfl) (by kernel_rfl) (by kernel_rfl) (fun _ _ _ h => h) (Or.inl ⟨by rfl, ?_⟩) hHeld ?_
  rotate_left
  · (intro w hSw; go_simp; (try with_reducible rfl))
  simp only [Act.put, List.getElem_toArray, List.getElem_cons_zero, List.getElem_cons_succ, List.setIfInBounds_toArray, List.set_cons_zero, List.set_cons_succ]
  refine wpAnyH_take (i := 15) (v := ?_) rfl (by kernel_rfl) (by kernel_rfl) (by kernel_rfl) (fun _ _ _ h => h) (Or.inl ⟨by rfl, ?_⟩) hHeld ?_
  rotate_left
  · (intro w hSw; go_simp; (try with_reducible rfl))
  simp only [Act.put, List.getElem_toArray, List.getElem_cons_zero, List.getElem_cons_succ, List.setIfInBounds_toArray, List.set_cons_zero, List.set_cons_succ]
  clear r0 r2 r3 r4 r5 n0 n2 n3 n4 n5
  have HS3 := Lib.hid (HS2.out.keep (Below.refl w2.heap.size w2).drew)
  have hsz : w2.drew.heap.size = w2.heap.size := rfl
  generalize w2.drew = w3 at hHeld HS3 hsz ⊢
  have kf : w3.cell? ⟨P, 0, none⟩ = some (.int .i64 0) := HS3.out.kind
  have ff := HS3.out.frozen 0
  refine wpAnyH_ready (rs := [16]) (by kernel_rfl) (by simp) ?_
  refine AllReadyH.cons rfl (fun K hK => ?_) AllReadyH.nil
  simp only [List.getElem_toArray, List.getElem_cons_zero, List.getElem_cons_succ]
  go_simp
  refine hK.out _ _ hHeld (fun _ => ?_)
  clear hK K
  try simp only [Act.put, List.setIfInBounds_toArray, List.set_cons_zero, List.set_cons_succ]
  refine wpAnyH_ready (rs := [17]) (by kernel_rfl) (by simp) ?_
  refine AllReadyH.cons rfl (fun K hK => ?_) AllReadyH.nil
  simp only [List.getElem_toArray, List.getElem_cons_zero, List.getElem_cons_succ]
  go_simp
  obtain ⟨w4, hW⟩ : ∃ W, W = w3.setCell ⟨P, 0, none⟩ (.int .i64 x0) := ⟨_, rfl⟩
  have HS4 := Lib.hid (show FS w P ⟨x0, 5, false, noC, 0, 0, 0, []⟩ none 0 0 w4 by rw [hW]; exact HS3.out.set_ 0 _ (set_kind _ _ _ _ _))
  have hHeld2 : SameB b w2 w4 := by rw [hW]; exact (heap_setCell_other _ _ _ _ HbP.out.1).trans hHeld
  have hsz : w4.heap.size = w2.heap.size := by rw [hW]; simp [World.setCell, hsz]
  rw [← hW]
  clear hW kf ff
  replace hHeld := hHeld2
  clear hHeld2
  refine hK.out _ _ hHeld (fun _ => ?_)
  clear hK K
  try simp only [Act.put, List.setIfInBounds_toArray, List.set_cons_zero, List.set_cons_succ]
  have kf : w4.cell? ⟨P, 2, none⟩ = some (.bool false) := HS4.out.fast
  have ff := HS4.out.frozen 2
  refine wpAnyH_ready (rs := [18]) (by kernel_rfl) (by simp) ?_
  refine AllReadyH.cons rfl (fun K hK => ?_) AllReadyH.nil
  simp only [List.getElem_toArray, List.getElem_cons_zero, List.getElem_cons_succ]
  go_simp
  refine hK.out _ _ hHeld (fun _ => ?_)
  clear hK K
  try simp only [Act.put, List.setIfInBounds_toArray, List.set_cons_zero, List.set_cons_succ]
  refine wpAnyH_ready (rs := [19]) (by kernel_rfl) (by simp) ?_
  refine AllReadyH.cons rfl (fun K hK => ?_) AllReadyH.nil
  simp only [List.getElem_toArray, List.getElem_cons_zero, List.getElem_cons_succ]
  go_simp
  obtain ⟨w5, hW⟩ : ∃ W, W = w4.setCell ⟨P, 2, none⟩ (.bool (x2 == 1)) := ⟨_, rfl⟩
  have HS5 := Lib.hid (show FS w P ⟨x0, 5, x2 == 1, noC, 0, 0, 0, []⟩ none 0 0 w5 by rw [hW]; exact HS4.out.set_ 2 _ (set_fast _ _ _ _ _))
  have hHeld2 : SameB b w2 w5 := by rw [hW]; exact (heap_setCell_other _ _ _ _ HbP.out.1).trans hHeld
  have hsz : w5.heap.size = w2.heap.size := by rw [hW]; simp [World.setCell, hsz]
  rw [← hW]
  clear hW kf ff
  replace hHeld := hHeld2
  clear hHeld2
  refine hK.out _ _ hHeld (fun _ => ?_)
  clear hK K
  try simp only [Act.put, List.setIfInBounds_toArray, List.set_cons_zero, List.set_cons_succ]
  have kf : w5.cell? ⟨P, 9, none⟩ = some (.int .i64 0) := HS5.out.power
  have ff := HS5.out.frozen 9
  refine wpAnyH_ready (rs := [20]) (by kernel_rfl) (by simp) ?_
  refine AllReadyH.cons rfl (fun K hK => ?_) AllReadyH.nil
  simp only [List.getElem_toArray, List.getElem_cons_zero, List.getElem_cons_succ]
  go_simp
  refine hK.out _ _ hHeld (fun _ => ?_)
  clear hK K
  try simp only [Act.put, List.setIfInBounds_toArray, List.set_cons_zero, List.set_cons_succ]
  refine wpAnyH_ready (rs := [21]) (by kernel_rfl) (by simp) ?_
  refine AllReadyH.cons rfl (fun K hK => ?_) AllReadyH.nil
  simp only [List.getElem_toArray, List.getElem_cons_zero, List.getElem_cons_succ]
  go_simp
  obtain ⟨w6, hW⟩ : ∃ W, W = w5.setCell ⟨P, 9, none⟩ (.int .i64 x3) := ⟨_, rfl⟩
  have HS6 := Lib.hid (show FS w P ⟨x0, 5, x2 == 1, noC, x3, 0, 0, []⟩ none 0 0 w6 by rw [hW]; exact HS5.out.set_ 9 _ (set_power _ _ _ _ _))
  have hHeld2 : SameB b w2 w6 := by rw [hW]; exact (heap_setCell_other _ _ _ _ HbP.out.1).trans hHeld
  have hsz : w6.heap.size = w2.heap.size := by rw [hW]; simp [World.setCell, hsz]
  rw [← hW]
  clear hW kf ff
  replace hHeld := hHeld2
  clear hHeld2
  refine hK.out _ _ hHeld (fun _ => ?_)
  clear hK K
  try simp only [Act.put, List.setIfInBounds_toArray, List.set_cons_zero, List.set_cons_succ]
  have kf : w6.cell? ⟨P, 10, none⟩ = some (.int .i64 0) := HS6.out.tough
  have ff := HS6.out.frozen 10
  refine wpAnyH_ready (rs := [22]) (by kernel_rfl) (by simp) ?_
  refine AllReadyH.cons rfl (fun K hK => ?_) AllReadyH.nil
  simp only [List.getElem_toArray, List.getElem_cons_zero, List.getElem_cons_succ]
  go_simp
  refine hK.out _ _ hHeld (fun _ => ?_)
  clear hK K
  try simp only [Act.put, List.setIfInBounds_toArray, List.set_cons_zero, List.set_cons_succ]
  refine wpAnyH_ready (rs := [23]) (by kernel_rfl) (by simp) ?_
  refine AllReadyH.cons rfl (fun K hK => ?_) AllReadyH.nil
  simp only [List.getElem_toArray, List.getElem_cons_zero, List.getElem_cons_succ]
  go_simp
  obtain ⟨w7, hW⟩ : ∃ W, W = w6.setCell ⟨P, 10, none⟩ (.int .i64 x4) := ⟨_, rfl⟩
  have HS7 := Lib.hid (show FS w P ⟨x0, 5, x2 == 1, noC, x3, x4, 0, []⟩ none 0 0 w7 by rw [hW]; exact HS6.out.set_ 10 _ (set_tough _ _ _ _ _))
  have hHeld2 : SameB b w2 w7 := by rw [hW]; exact (heap_setCell_other _ _ _ _ HbP.out.1).trans hHeld
  have hsz : w7.heap.size = w2.heap.size := by rw [hW]; simp [World.setCell, hsz]
  rw [← hW]
  clear hW kf ff
  replace hHeld := hHeld2
  clear hHeld2
  refine hK.out _ _ hHeld (fun _ => ?_)
  clear hK K
  try simp only [Act.put, List.setIfInBounds_toArray, List.set_cons_zero, List.set_cons_succ]
  have kf : w7.cell? ⟨P, 11, none⟩ = some (.int .i64 0) := HS7.out.says
  have ff := HS7.out.frozen 11
  refine wpAnyH_ready (rs := [24]) (by kernel_rfl) (by simp) ?_
  refine AllReadyH.cons rfl (fun K hK => ?_) AllReadyH.nil
  simp only [List.getElem_toArray, List.getElem_cons_zero, List.getElem_cons_succ]
  go_simp
  refine hK.out _ _ hHeld (fun _ => ?_)
  clear hK K
  try simp only [Act.put, List.setIfInBounds_toArray, List.set_cons_zero, List.set_cons_succ]
  refine wpAnyH_ready (rs := [25]) (by kernel_rfl) (by simp) ?_
  refine AllReadyH.cons rfl (fun K hK => ?_) AllReadyH.nil
  simp only [List.getElem_toArray, List.getElem_cons_zero, List.getElem_cons_succ]
  go_simp
  obtain ⟨w8, hW⟩ : ∃ W, W = w7.setCell ⟨P, 11, none⟩ (.int .i64 x5) := ⟨_, rfl⟩
  have HS8 := Lib.hid (show FS w P ⟨x0, 5, x2 == 1, noC, x3, x4, x5, []⟩ none 0 0 w8 by rw [hW]; exact HS7.out.set_ 11 _ (set_says _ _ _ _ _))
  have hHeld2 : SameB b w2 w8 := by rw [hW]; exact (heap_setCell_other _ _ _ _ HbP.out.1).trans hHeld
  have hsz : w8.heap.size = w2.heap.size := by rw [hW]; simp [World.setCell, hsz]
  rw [← hW]
  clear hW kf ff
  replace hHeld := hHeld2
  clear hHeld2
  refine hK.out _ _ hHeld (fun _ => ?_)
  clear hK K
  try simp only [Act.put, List.setIfInBounds_toArray, List.set_cons_zero, List.set_cons_succ]
  refine wpAnyH_done (by kernel_rfl) ?_ _
  have k8 : w8.cell? ⟨P, 8, none⟩ = some (.int .i64 0) := HS8.out.cost (j := 5) (by omega)
  have f8 := HS8.out.frozen 8
  have c1 := R1.out w8 hHeld
  have n1 : (1 : Int) < (r.length : Int) := by omega
  clear HS3 HS4 HS5 HS6 HS7
  go_upto_region 48 with fail
  obtain ⟨w9, hW⟩ : ∃ W, W = w8.setCell ⟨P, 8, none⟩ (.int .i64 x1) := ⟨_, rfl⟩
  have HS9 := Lib.hid (show FS w P ⟨x0, 5, x2 == 1, updI noC 5 x1, x3, x4, x5, []⟩ none 0 0 w9 by rw [hW]; exact HS8.out.set_ 8 _ (set_cost _ _ _ _ 5 (by omega) _))
  have hB9 : SameB b w2 w9 := by rw [hW]; exact (heap_setCell_other _ _ _ _ HbP.out.1).trans hHeld
  have hsz9 : w9.heap.size = w2.heap.size := by rw [hW]; simp [World.setCell, hsz]
  rw [← hW]
  clear hW k8 f8 c1 n1
  have hN9 := nums_cut (nums_block HN.out hB9 (by rw [hsz9]; exact Nat.le_refl _)) 6
  have n6 : (6 : Int) ≤ (r.length : Int) := by omega
  have c6 : ¬ r.length = 6 := by omega
  go_wp2_with fail
  refine (abilityRef_any (r.drop 6) b 6 (r.length - 6) (r.length - 6) ((r.length - 14) / 4) w9 hN9 (Nat.le_refl _) (by rw [List.length_drop]; omega) (by omega) (fun i => by rw [drop_getD]; exact getD_in HRow.out.2.2.2.2 _) (by rw [drop_getD]; exact rc)).mono ?_
  rintro e w10 ⟨ys, rfl, hra, hb10⟩
  have hy14 := hra.size
  have hS10 := HS9.out.keep hb10
  have hS10a := hS10.keep (show Below w10.heap.size w10 (w10.alloc (.cells ys 79)) from (Below.refl _ _).alloc (Nat.le_refl _) _)
  have q12 := hS10a.abs
  have f12 := hS10a.frozen 12
  have HWl := Lib.hid (show w.heap.size < P ∧ P < w9.heap.size ∧ w9.heap.size ≤ w10.heap.size from ⟨HS9.out.lt, HS9.out.cd.lt, hb10.size⟩)
  have hPl := hS10.cd.lt
  obtain ⟨a0, ha0⟩ : ∃ a, a = abL (r.drop 6) := ⟨_, rfl⟩
  rw [← ha0] at hra HT2
  clear hN9 n6 c6 ha0
  go_upto_region 49 with (refine wpList_buildSlice_ab rfl (.tmp 214) rfl ys hy14 rfl ?_)
  obtain ⟨w11, hW⟩ : ∃ W, W = (w10.setCell ⟨P, 12, none⟩ (.slice (some ⟨w10.heap.size, 0, none⟩) 1 1)).alloc (.cells ys 79) := ⟨_, rfl⟩
  have HS11 := Lib.hid (show FS w P ⟨x0, 5, x2 == 1, updI noC 5 x1, x3, x4, x5, [a0]⟩ (some ⟨w10.heap.size, 0, none⟩) 1 1 w11 by rw [hW]; exact (hS10.set_ 12 _ (set_list _ _ _ _ _ _ _ _)).keep ((Below.refl _ _).alloc (Nat.le_refl _) _))
  have HG := Lib.hid (show AbAt w11 w10.heap.size ys by rw [hW]; simpa using AbAt.new (w10.setCell ⟨P, 12, none⟩ (.slice (some ⟨w10.heap.size, 0, none⟩) 1 1)) ys)
  have hsz11 : w11.heap.size = w10.heap.size + 1 := by rw [hW]; simp [World.setCell]
  have HRa := Lib.hid (hra.keep (w' := w11) (fun b' hq => by
    rw [hW]
    have h1 : Below w10.heap.size (w10.setCell ⟨P, 12, none⟩ (.slice (some ⟨w10.heap.size, 0, none⟩) 1 1)) ((w10.setCell ⟨P, 12, none⟩ (.slice (some ⟨w10.heap.size, 0, none⟩) 1 1)).alloc (.cells ys 79)) := (Below.refl _ _).alloc (by simp) _
    exact (h1.block b' hq.2).trans (heap_setCell_other w10 ⟨P, 12, none⟩ b' _ (by have := HWl.out; simp; omega))) (Q' := fun b => P + 1 ≤ b ∧ b < w10.heap.size) (fun b' hq => ⟨by have := HWl.out; omega, hq.2⟩))
  rw [← hW]
  clear hW q12 f12 hS10 hS10a hra hb10
  by_cases hn : n = 108
  case neg =>
    have dn : ((n : Int) == 108) = false := by simp; omega
    have HT3 := Lib.hid (show tblC n = ⟨x0, 5, x2 == 1, updI noC 5 x1, x3, x4, x5, [a0]⟩ by rw [HT2.out, if_neg hn])
    clear hn
    go_upto_region 54 with fail
    have hz9 := HS11.out.z
    have hb9 := HS11.out.b
    have hP9 := HS11.out.cd
    have hlt9 := HS11.out.lt
    have hs9 := HS11.out.size
    have hsx9 : (Tryd.prog.info? 55).map (·.size) = some (cardC ⟨x0, 5, x2 == 1, updI noC 5 x1, x3, x4, x5, [a0]⟩ (some ⟨w10.heap.size, 0, none⟩) 1 1).size := by rw [hs9]; exact size13
    have h19 : (cardC ⟨x0, 5, x2 == 1, updI noC 5 x1, x3, x4, x5, [a0]⟩ (some ⟨w10.heap.size, 0, none⟩) 1 1).all (·.oneCell') = true := card_one _ _ _ _
    go_wp2_with (first
      | (refine wpList_load_row rfl 55 (.tmp 4) rfl P rfl 55 _ (0, 0) _ hP9 Tryd.underlying55 rfl hsx9 ?_)
      | (refine wpList_store_row rfl 55 (.tmp 2) (.tmp 238) rfl w.heap.size _ rfl rfl 55 zeroD hz9 hsx9 (by rw [hs9]; rfl) h19 ?_))
    refine bodyPost_ret (v := .tuple #[.agg (cardC ⟨x0, 5, x2 == 1, updI noC 5 x1, x3, x4, x5, [a0]⟩ (some ⟨w10.heap.size, 0, none⟩) 1 1), .bool true]) ?_ rfl ⟨_, rfl, ?_, below_setRow hb9 _ _ (Nat.le_refl _)⟩
    · exact results_cell_tmp (ty := 55) (p := 2) (q := 3) (by kernel_rfl) _ _ w.heap.size 55 _ (0, 0) _ rfl (setRow_heap _ _ _ _ _ _ hz9) Tryd.underlying55 rfl hsx9
    rw [HT3.out]
    exact FS.reads HS11.out _ HIn.out.1 in_5 (wide_five HIn.out.2.1) HIn.out.2.2.1 HIn.out.2.2.2.1 HIn.out.2.2.2.2 (Nat.le_refl _) (by unfold maxLen; omega) (one_ab HG.out (HRa.out.keep (fun _ _ => rfl) (fun b' hq => ⟨by have := HWl.out; omega, by omega⟩)) ⟨by have := HWl.out; omega, by omega⟩)
  have dn : ((n : Int) == 108) = true := by simp; omega
  have HT3 := Lib.hid (show tblC n = ⟨x0, 5, x2 == 1, updI noC 5 x1, x3, x4, x5, [a0, giveA 2 5]⟩ by rw [HT2.out, if_pos hn])
  clear hn
  have HOw := Lib.hid (show OwnA w11 (P + 1) 2 (some ⟨w10.heap.size, 0, none⟩) 1 1 [a0] from
    ⟨⟨[ys], rfl, fun cs hc => by simp at hc; subst hc; exact hy14, ⟨by simp [flatC, hy14], .inr ⟨w10.heap.size, 1, ys, rfl, by have := HWl.out; omega, HG.out, Nat.le_refl _, by unfold maxLen; omega, by rw [hy14], by simp [flatC]; exact List.take_of_length_le (by simp [hy14])⟩⟩, fun i t cs ht hc => by
      cases i with
      | zero => simp at ht hc; subst ht; subst hc; exact HRa.out.keep (fun _ _ => rfl) (fun b' hq => ⟨hq.1, by omega, by simp [Value.ownBlock]; omega⟩)
      | succ i => simp at ht⟩, rfl⟩)
  go_upto_region 50 with fail
  refine wp_region_held_drew (S := fun _ => True) (by kernel_rfl) trivial (fun hHeld => ?_)
  have hb0 : Below w11.heap.size w11 w11.drew := (Below.refl _ _).drew
  have HS12 := Lib.hid (HS11.out.keep hb0)
  have HO12 := Lib.hid (HOw.out.below hb0)
  have hsz12 : w11.heap.size ≤ w11.drew.heap.size := hb0.size
  generalize w11.drew = V0 at hHeld HS12 HO12 hsz12 ⊢
  clear hb0
  refine wpAnyH_take (i := 0) (v := ?_) rfl (by kernel_rfl) (by kernel_rfl) (by kernel_rfl) (fun _ _ _ h => h) (Or.inl ⟨by rfl, ?_⟩) hHeld ?_
  rotate_left
  · (intro w hSw; go_simp; (try with_reducible rfl))
  simp only [Act.put, List.getElem_toArray, List.getElem_cons_zero, List.getElem_cons_succ, List.setIfInBounds_toArray, List.set_cons_zero, List.set_cons_succ]
  refine wpAnyH_ready (rs := [1, 2]) (by kernel_rfl) (by simp) ?_
  refine AllReadyH.cons rfl (fun K hK => ?_) (AllReadyH.cons rfl (fun K hK => ?_) AllReadyH.nil)
  all_goals simp only [List.getElem_toArray, List.getElem_cons_zero, List.getElem_cons_succ]
  · skip
    have q0 := HS12.out.abs
    go_simp
    refine hK.out _ _ trivial (fun _ => ?_)
    clear hK K
    try simp only [Act.put, List.setIfInBounds_toArray, List.set_cons_zero, List.set_cons_succ]
    clear q0
    refine wpAnyH_ready (rs := [2]) (by kernel_rfl) (by simp) ?_
    refine AllReadyH.cons rfl (fun K hK => ?_) AllReadyH.nil
    simp only [List.getElem_toArray, List.getElem_cons_zero, List.getElem_cons_succ]
    go_simp
    refine (giveRef_any 2 5 V0).mono ?_
    rintro e V1 ⟨rfl, hbv⟩
    go_wp2_with fail
    have HS13 := Lib.hid (HS12.out.keep hbv)
    have HO13 := Lib.hid (HO12.out.below hbv)
    have hsz13 := hbv.size
    clear hbv
    refine hK.out _ _ trivial (fun _ => ?_)
    clear hK K
    try simp only [Act.put, List.setIfInBounds_toArray, List.set_cons_zero, List.set_cons_succ]
    refine wpAnyH_ready (rs := [3]) (by kernel_rfl) (by simp) ?_
    refine AllReadyH.cons rfl (fun K hK => ?_) AllReadyH.nil
    simp only [List.getElem_toArray, List.getElem_cons_zero, List.getElem_cons_succ]
    obtain ⟨zs, hzs⟩ : ∃ zs, zs = abC (giveA 2 5) (evC 15 2 5 0 none 0 0) := ⟨_, rfl⟩
    have HZs := Lib.hid (show ∀ (Q : Nat → Prop) (W : World), ReadsAQ Q W 2 zs (giveA 2 5) from fun Q W => by rw [hzs]; exact flat_reads 6 0 15 2 5 0 noC true ⟨by decide, by decide⟩ wide_no in_0 ⟨by decide, by decide⟩ in_2 in_5 in_0)
    refine wp_buildSlice_ab (.tmp 221) rfl zs (HZs.out (fun _ => True) V1).size (by rw [hzs]; rfl) ?_
    obtain ⟨V2, hW⟩ : ∃ W, W = V1.alloc (.cells zs 79) := ⟨_, rfl⟩
    have hbv : Below V1.heap.size V1 V2 := by rw [hW]; exact (Below.refl _ _).alloc (Nat.le_refl _) _
    have HX14 := Lib.hid (show AbAt V2 V1.heap.size zs by rw [hW]; exact AbAt.new _ _)
    have HS14 := Lib.hid (HS13.out.keep hbv)
    have HO14 := Lib.hid (HO13.out.below hbv)
    have hsz14 := hbv.size
    rw [← hW]
    clear hW hzs hbv
    refine hK.out _ _ trivial (fun _ => ?_)
    clear hK K
    try simp only [Act.put, List.setIfInBounds_toArray, List.set_cons_zero, List.set_cons_succ]
    refine wpAnyH_ready (rs := [4]) (by kernel_rfl) (by simp) ?_
    refine AllReadyH.cons rfl (fun K hK => ?_) AllReadyH.nil
    simp only [List.getElem_toArray, List.getElem_cons_zero, List.getElem_cons_succ]
    refine wp_appA (.tmp 220) (.tmp 222) rfl (P + 1) 2 _ 1 1 [a0] rfl HO14.out V1.heap.size 1 zs rfl HX14.out (giveA 2 5) (HZs.out _ _) (by omega) (by have := HS14.out.cd.lt; omega) ?_
    intro A8 c8 w15 hO15 hg15
    have hS15 := HS14.out.grown hg15 (fun g hh => HO14.out.ownLt g hh)
    have q1 := hS15.abs
    have q2 := hS15.frozen 12
    refine hK.out _ _ trivial (fun _ => ?_)
    clear hK K
    try simp only [Act.put, List.setIfInBounds_toArray, List.set_cons_zero, List.set_cons_succ]
    refine wpAnyH_ready (rs := [5]) (by kernel_rfl) (by simp) ?_
    refine AllReadyH.cons rfl (fun K hK => ?_) AllReadyH.nil
    simp only [List.getElem_toArray, List.getElem_cons_zero, List.getElem_cons_succ]
    go_simp
    refine hK.out _ _ trivial (fun _ => ?_)
    clear hK K
    try simp only [Act.put, List.setIfInBounds_toArray, List.set_cons_zero, List.set_cons_succ]
    refine wpAnyH_ready (rs := [6]) (by kernel_rfl) (by simp) ?_
    refine AllReadyH.cons rfl (fun K hK => ?_) AllReadyH.nil
    simp only [List.getElem_toArray, List.getElem_cons_zero, List.getElem_cons_succ]
    go_simp
    refine hK.out _ _ trivial (fun _ => ?_)
    clear hK K
    try simp only [Act.put, List.setIfInBounds_toArray, List.set_cons_zero, List.set_cons_succ]
    refine wpAnyH_done (by kernel_rfl) ?_ _
    obtain ⟨w16, hW⟩ : ∃ W, W = w15.setCell ⟨P, 12, none⟩ (.slice A8 2 c8) := ⟨_, rfl⟩
    have HS16 := Lib.hid (show FS w P ⟨x0, 5, x2 == 1, updI noC 5 x1, x3, x4, x5, [a0, giveA 2 5]⟩ A8 2 c8 w16 by rw [hW]; exact hS15.set_ 12 _ (set_list _ _ _ _ _ _ _ _))
    have hO16 : OwnA w16 (P + 1) 2 A8 2 c8 [a0, giveA 2 5] := by rw [hW]; exact hO15.same (by simp [World.setCell]) (fun b' hb' _ => heap_setCell_other _ _ _ _ (by simp; omega))
    have hwi := hO16.within (B := w16.heap.size) (Nat.le_refl _)
    have HWi := Lib.hid hwi
    rw [← hW]
    clear hW q1 q2 hS15 hO15 hg15 hO16 hwi
    go_upto_region 54 with fail
    have hz9 := HS16.out.z
    have hb9 := HS16.out.b
    have hP9 := HS16.out.cd
    have hlt9 := HS16.out.lt
    have hs9 := HS16.out.size
    have hsx9 : (Tryd.prog.info? 55).map (·.size) = some (cardC ⟨x0, 5, x2 == 1, updI noC 5 x1, x3, x4, x5, [a0, giveA 2 5]⟩ A8 2 c8).size := by rw [hs9]; exact size13
    have h19 : (cardC ⟨x0, 5, x2 == 1, updI noC 5 x1, x3, x4, x5, [a0, giveA 2 5]⟩ A8 2 c8).all (·.oneCell') = true := card_one _ _ _ _
    go_wp2_with (first
      | (refine wpList_load_row rfl 55 (.tmp 4) rfl P rfl 55 _ (0, 0) _ hP9 Tryd.underlying55 rfl hsx9 ?_)
      | (refine wpList_store_row rfl 55 (.tmp 2) (.tmp 238) rfl w.heap.size _ rfl rfl 55 zeroD hz9 hsx9 (by rw [hs9]; rfl) h19 ?_))
    refine bodyPost_ret (v := .tuple #[.agg (cardC ⟨x0, 5, x2 == 1, updI noC 5 x1, x3, x4, x5, [a0, giveA 2 5]⟩ A8 2 c8), .bool true]) ?_ rfl ⟨_, rfl, ?_, below_setRow hb9 _ _ (Nat.le_refl _)⟩
    · exact results_cell_tmp (ty := 55) (p := 2) (q := 3) (by kernel_rfl) _ _ w.heap.size 55 _ (0, 0) _ rfl (setRow_heap _ _ _ _ _ _ hz9) Tryd.underlying55 rfl hsx9
    rw [HT3.out]
    exact FS.reads (cc := c8) HS16.out _ HIn.out.1 in_5 (wide_five HIn.out.2.1) HIn.out.2.2.1 HIn.out.2.2.2.1 HIn.out.2.2.2.2 HWi.out.1 HWi.out.2.1 (HWi.out.2.2.keep (fun _ _ => rfl) (fun b' hq => ⟨by have := HWl.out; omega, hq.2⟩))
  · skip
    go_simp
    refine (giveRef_any 2 5 V0).mono ?_
    rintro e V1 ⟨rfl, hbv⟩
    go_wp2_with fail
    have HS13 := Lib.hid (HS12.out.keep hbv)
    have HO13 := Lib.hid (HO12.out.below hbv)
    have hsz13 := hbv.size
    clear hbv
    refine hK.out _ _ trivial (fun _ => ?_)
    clear hK K
    try simp only [Act.put, List.setIfInBounds_toArray, List.set_cons_zero, List.set_cons_succ]
    refine wpAnyH_ready (rs := [1, 3]) (by kernel_rfl) (by simp) ?_
    refine AllReadyH.cons rfl (fun K hK => ?_) (AllReadyH.cons rfl (fun K hK => ?_) AllReadyH.nil)
    all_goals simp only [List.getElem_toArray, List.getElem_cons_zero, List.getElem_cons_succ]
    · skip
      have q0 := HS13.out.abs
      go_simp
      refine hK.out _ _ trivial (fun _ => ?_)
      clear hK K
      try simp only [Act.put, List.setIfInBounds_toArray, List.set_cons_zero, List.set_cons_succ]
      clear q0
      refine wpAnyH_ready (rs := [3]) (by kernel_rfl) (by simp) ?_
      refine AllReadyH.cons rfl (fun K hK => ?_) AllReadyH.nil
      simp only [List.getElem_toArray, List.getElem_cons_zero, List.getElem_cons_succ]
      obtain ⟨zs, hzs⟩ : ∃ zs, zs = abC (giveA 2 5) (evC 15 2 5 0 none 0 0) := ⟨_, rfl⟩
      have HZs := Lib.hid (show ∀ (Q : Nat → Prop) (W : World), ReadsAQ Q W 2 zs (giveA 2 5) from fun Q W => by rw [hzs]; exact flat_reads 6 0 15 2 5 0 noC true ⟨by decide, by decide⟩ wide_no in_0 ⟨by decide, by decide⟩ in_2 in_5 in_0)
      refine wp_buildSlice_ab (.tmp 221) rfl zs (HZs.out (fun _ => True) V1).size (by rw [hzs]; rfl) ?_
      obtain ⟨V2, hW⟩ : ∃ W, W = V1.alloc (.cells zs 79) := ⟨_, rfl⟩
      have hbv : Below V1.heap.size V1 V2 := by rw [hW]; exact (Below.refl _ _).alloc (Nat.le_refl _) _
      have HX14 := Lib.hid (show AbAt V2 V1.heap.size zs by rw [hW]; exact AbAt.new _ _)
      have HS14 := Lib.hid (HS13.out.keep hbv)
      have HO14 := Lib.hid (HO13.out.below hbv)
      have hsz14 := hbv.size
      rw [← hW]
      clear hW hzs hbv
      refine hK.out _ _ trivial (fun _ => ?_)
      clear hK K
      try simp only [Act.put, List.setIfInBounds_toArray, List.set_cons_zero, List.set_cons_succ]
      refine wpAnyH_ready (rs := [4]) (by kernel_rfl) (by simp) ?_
      refine AllReadyH.cons rfl (fun K hK => ?_) AllReadyH.nil
      simp only [List.getElem_toArray, List.getElem_cons_zero, List.getElem_cons_succ]
      refine wp_appA (.tmp 220) (.tmp 222) rfl (P + 1) 2 _ 1 1 [a0] rfl HO14.out V1.heap.size 1 zs rfl HX14.out (giveA 2 5) (HZs.out _ _) (by omega) (by have := HS14.out.cd.lt; omega) ?_
      intro A8 c8 w15 hO15 hg15
      have hS15 := HS14.out.grown hg15 (fun g hh => HO14.out.ownLt g hh)
      have q1 := hS15.abs
      have q2 := hS15.frozen 12
      refine hK.out _ _ trivial (fun _ => ?_)
      clear hK K
      try simp only [Act.put, List.setIfInBounds_toArray, List.set_cons_zero, List.set_cons_succ]
      refine wpAnyH_ready (rs := [5]) (by kernel_rfl) (by simp) ?_
      refine AllReadyH.cons rfl (fun K hK => ?_) AllReadyH.nil
      simp only [List.getElem_toArray, List.getElem_cons_zero, List.getElem_cons_succ]
      go_simp
      refine hK.out _ _ trivial (fun _ => ?_)
      clear hK K
      try simp only [Act.put, List.setIfInBounds_toArray, List.set_cons_zero, List.set_cons_succ]
      refine wpAnyH_ready (rs := [6]) (by kernel_rfl) (by simp) ?_
      refine AllReadyH.cons rfl (fun K hK => ?_) AllReadyH.nil
      simp only [List.getElem_toArray, List.getElem_cons_zero, List.getElem_cons_succ]
      go_simp
      refine hK.out _ _ trivial (fun _ => ?_)
      clear hK K
      try simp only [Act.put, List.setIfInBounds_toArray, List.set_cons_zero, List.set_cons_succ]
      refine wpAnyH_done (by kernel_rfl) ?_ _
      obtain ⟨w16, hW⟩ : ∃ W, W = w15.setCell ⟨P, 12, none⟩ (.slice A8 2 c8) := ⟨_, rfl⟩
      have HS16 := Lib.hid (show FS w P ⟨x0, 5, x2 == 1, updI noC 5 x1, x3, x4, x5, [a0, giveA 2 5]⟩ A8 2 c8 w16 by rw [hW]; exact hS15.set_ 12 _ (set_list _ _ _ _ _ _ _ _))
      have hO16 : OwnA w16 (P + 1) 2 A8 2 c8 [a0, giveA 2 5] := by rw [hW]; exact hO15.same (by simp [World.setCell]) (fun b' hb' _ => heap_setCell_other _ _ _ _ (by simp; omega))
      have hwi := hO16.within (B := w16.heap.size) (Nat.le_refl _)
      have HWi := Lib.hid hwi
      rw [← hW]
      clear hW q1 q2 hS15 hO15 hg15 hO16 hwi
      go_upto_region 54 with fail
      have hz9 := HS16.out.z
      have hb9 := HS16.out.b
      have hP9 := HS16.out.cd
      have hlt9 := HS16.out.lt
      have hs9 := HS16.out.size
      have hsx9 : (Tryd.prog.info? 55).map (·.size) = some (cardC ⟨x0, 5, x2 == 1, updI noC 5 x1, x3, x4, x5, [a0, giveA 2 5]⟩ A8 2 c8).size := by rw [hs9]; exact size13
      have h19 : (cardC ⟨x0, 5, x2 == 1, updI noC 5 x1, x3, x4, x5, [a0, giveA 2 5]⟩ A8 2 c8).all (·.oneCell') = true := card_one _ _ _ _
      go_wp2_with (first
        | (refine wpList_load_row rfl 55 (.tmp 4) rfl P rfl 55 _ (0, 0) _ hP9 Tryd.underlying55 rfl hsx9 ?_)
        | (refine wpList_store_row rfl 55 (.tmp 2) (.tmp 238) rfl w.heap.size _ rfl rfl 55 zeroD hz9 hsx9 (by rw [hs9]; rfl) h19 ?_))
      refine bodyPost_ret (v := .tuple #[.agg (cardC ⟨x0, 5, x2 == 1, updI noC 5 x1, x3, x4, x5, [a0, giveA 2 5]⟩ A8 2 c8), .bool true]) ?_ rfl ⟨_, rfl, ?_, below_setRow hb9 _ _ (Nat.le_refl _)⟩
      · exact results_cell_tmp (ty := 55) (p := 2) (q := 3) (by kernel_rfl) _ _ w.heap.size 55 _ (0, 0) _ rfl (setRow_heap _ _ _ _ _ _ hz9) Tryd.underlying55 rfl hsx9
      rw [HT3.out]
      exact FS.reads (cc := c8) HS16.out _ HIn.out.1 in_5 (wide_five HIn.out.2.1) HIn.out.2.2.1 HIn.out.2.2.2.1 HIn.out.2.2.2.2 HWi.out.1 HWi.out.2.1 (HWi.out.2.2.keep (fun _ _ => rfl) (fun b' hq => ⟨by have := HWl.out; omega, hq.2⟩))
    · skip
      obtain ⟨zs, hzs⟩ : ∃ zs, zs = abC (giveA 2 5) (evC 15 2 5 0 none 0 0) := ⟨_, rfl⟩
      have HZs := Lib.hid (show ∀ (Q : Nat → Prop) (W : World), ReadsAQ Q W 2 zs (giveA 2 5) from fun Q W => by rw [hzs]; exact flat_reads 6 0 15 2 5 0 noC true ⟨by decide, by decide⟩ wide_no in_0 ⟨by decide, by decide⟩ in_2 in_5 in_0)
      refine wp_buildSlice_ab (.tmp 221) rfl zs (HZs.out (fun _ => True) V1).size (by rw [hzs]; rfl) ?_
      obtain ⟨V2, hW⟩ : ∃ W, W = V1.alloc (.cells zs 79) := ⟨_, rfl⟩
      have hbv : Below V1.heap.size V1 V2 := by rw [hW]; exact (Below.refl _ _).alloc (Nat.le_refl _) _
      have HX14 := Lib.hid (show AbAt V2 V1.heap.size zs by rw [hW]; exact AbAt.new _ _)
      have HS14 := Lib.hid (HS13.out.keep hbv)
      have HO14 := Lib.hid (HO13.out.below hbv)
      have hsz14 := hbv.size
      rw [← hW]
      clear hW hzs hbv
      refine hK.out _ _ trivial (fun _ => ?_)
      clear hK K
      try simp only [Act.put, List.setIfInBounds_toArray, List.set_cons_zero, List.set_cons_succ]
      refine wpAnyH_ready (rs := [1]) (by kernel_rfl) (by simp) ?_
      refine AllReadyH.cons rfl (fun K hK => ?_) AllReadyH.nil
      simp only [List.getElem_toArray, List.getElem_cons_zero, List.getElem_cons_succ]
      have q0 := HS14.out.abs
      go_simp
      refine hK.out _ _ trivial (fun _ => ?_)
      clear hK K
      try simp only [Act.put, List.setIfInBounds_toArray, List.set_cons_zero, List.set_cons_succ]
      clear q0
      refine wpAnyH_ready (rs := [4]) (by kernel_rfl) (by simp) ?_
      refine AllReadyH.cons rfl (fun K hK => ?_) AllReadyH.nil
      simp only [List.getElem_toArray, List.getElem_cons_zero, List.getElem_cons_succ]
      refine wp_appA (.tmp 220) (.tmp 222) rfl (P + 1) 2 _ 1 1 [a0] rfl HO14.out V1.heap.size 1 zs rfl HX14.out (giveA 2 5) (HZs.out _ _) (by omega) (by have := HS14.out.cd.lt; omega) ?_
      intro A8 c8 w15 hO15 hg15
      have hS15 := HS14.out.grown hg15 (fun g hh => HO14.out.ownLt g hh)
      have q1 := hS15.abs
      have q2 := hS15.frozen 12
      refine hK.out _ _ trivial (fun _ => ?_)
      clear hK K
      try simp only [Act.put, List.setIfInBounds_toArray, List.set_cons_zero, List.set_cons_succ]
      refine wpAnyH_ready (rs := [5]) (by kernel_rfl) (by simp) ?_
      refine AllReadyH.cons rfl (fun K hK => ?_) AllReadyH.nil
      simp only [List.getElem_toArray, List.getElem_cons_zero, List.getElem_cons_succ]
      go_simp
      refine hK.out _ _ trivial (fun _ => ?_)
      clear hK K
      try simp only [Act.put, List.setIfInBounds_toArray, List.set_cons_zero, List.set_cons_succ]
      refine wpAnyH_ready (rs := [6]) (by kernel_rfl) (by simp) ?_
      refine AllReadyH.cons rfl (fun K hK => ?_) AllReadyH.nil
      simp only [List.getElem_toArray, List.getElem_cons_zero, List.getElem_cons_succ]
      go_simp
      refine hK.out _ _ trivial (fun _ => ?_)
      clear hK K
      try simp only [Act.put, List.setIfInBounds_toArray, List.set_cons_zero, List.set_cons_succ]
      refine wpAnyH_done (by kernel_rfl) ?_ _
      obtain ⟨w16, hW⟩ : ∃ W, W = w15.setCell ⟨P, 12, none⟩ (.slice A8 2 c8) := ⟨_, rfl⟩
      have HS16 := Lib.hid (show FS w P ⟨x0, 5, x2 == 1, updI noC 5 x1, x3, x4, x5, [a0, giveA 2 5]⟩ A8 2 c8 w16 by rw [hW]; exact hS15.set_ 12 _ (set_list _ _ _ _ _ _ _ _))
      have hO16 : OwnA w16 (P + 1) 2 A8 2 c8 [a0, giveA 2 5] := by rw [hW]; exact hO15.same (by simp [World.setCell]) (fun b' hb' _ => heap_setCell_other _ _ _ _ (by simp; omega))
      have hwi := hO16.within (B := w16.heap.size) (Nat.le_refl _)
      have HWi := Lib.hid hwi
      rw [← hW]
      clear hW q1 q2 hS15 hO15 hg15 hO16 hwi
      go_upto_region 54 with fail
      have hz9 := HS16.out.z
      have hb9 := HS16.out.b
      have hP9 := HS16.out.cd
      have hlt9 := HS16.out.lt
      have hs9 := HS16.out.size
      have hsx9 : (Tryd.prog.info? 55).map (·.size) = some (cardC ⟨x0, 5, x2 == 1, updI noC 5 x1, x3, x4, x5, [a0, giveA 2 5]⟩ A8 2 c8).size := by rw [hs9]; exact size13
      have h19 : (cardC ⟨x0, 5, x2 == 1, updI noC 5 x1, x3, x4, x5, [a0, giveA 2 5]⟩ A8 2 c8).all (·.oneCell') = true := card_one _ _ _ _
      go_wp2_with (first
        | (refine wpList_load_row rfl 55 (.tmp 4) rfl P rfl 55 _ (0, 0) _ hP9 Tryd.underlying55 rfl hsx9 ?_)
        | (refine wpList_store_row rfl 55 (.tmp 2) (.tmp 238) rfl w.heap.size _ rfl rfl 55 zeroD hz9 hsx9 (by rw [hs9]; rfl) h19 ?_))
      refine bodyPost_ret (v := .tuple #[.agg (cardC ⟨x0, 5, x2 == 1, updI noC 5 x1, x3, x4, x5, [a0, giveA 2 5]⟩ A8 2 c8), .bool true]) ?_ rfl ⟨_, rfl, ?_, below_setRow hb9 _ _ (Nat.le_refl _)⟩
      · exact results_cell_tmp (ty := 55) (p := 2) (q := 3) (by kernel_rfl) _ _ w.heap.size 55 _ (0, 0) _ rfl (setRow_heap _ _ _ _ _ _ hz9) Tryd.underlying55 rfl hsx9
      rw [HT3.out]
      exact FS.reads (cc := c8) HS16.out _ HIn.out.1 in_5 (wide_five HIn.out.2.1) HIn.out.2.2.1 HIn.out.2.2.2.1 HIn.out.2.2.2.2 HWi.out.1 HWi.out.2.1 (HWi.out.2.2.keep (fun _ _ => rfl) (fun b' hq => ⟨by have := HWl.out; omega, hq.2⟩))
end Go.Proofs.YtplfblccaeligaaDoor
