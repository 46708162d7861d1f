/- Layer 3: the document's object of a head and a rest. -/
import Derived.Test.YtihbdbgmijkjmaaDoorPackRef
namespace Go.Proofs.YtihbdbgmijkjmaaDoor
open Go.RowKit Px
attribute [local go_sem] arr_get
/-- The object of a head and a rest. -/
def objL (x : Int) (r : Nat → Int) : List Int := [r 0, x % 2, x / 2 % 2, x / 4 % 16, x / 64 % 2, x / 128 % 2, r 1, r 2, r 3, r 4, x / 8192 % 256, x / 256 % 2, r 5, x / 512 % 4, r 6, r 7, r 8, x / 2048 % 4]
def objF (x : Int) (r : Nat → Int) (i : Nat) : Int := (objL x r).getD i 0
/-- The first k fields of the head are laid. -/
def objK (x : Int) : Nat → Nat → Int
  | 0 => fun _ => 0
  | k + 1 => updI (objK x k) (fN k) (x / wN k % sN k)
theorem zero18 : #[Value.int .i64 0, Value.int .i64 0, Value.int .i64 0, Value.int .i64 0, Value.int .i64 0, Value.int .i64 0, Value.int .i64 0, Value.int .i64 0, Value.int .i64 0, Value.int .i64 0, Value.int .i64 0, Value.int .i64 0, Value.int .i64 0, Value.int .i64 0, Value.int .i64 0, Value.int .i64 0, Value.int .i64 0, Value.int .i64 0] = arr .i64 18 (fun _ => 0) := (arr_zero .i64 18).symm
def ROPost (x : Int) (r : Nat → Int) (w : World) (good bad : Value) (e : Ending) (w' : World) : Prop :=
  ((x < 2097152 ∧ e = .returned (.tuple #[.agg (arr .i64 18 (objF x r)), good])) ∨ (2097152 ≤ x ∧ e = .returned (.tuple #[.agg (arr .i64 18 (fun _ => 0)), bad]))) ∧ Below w.heap.size w w'
def RORel (w2 : World) (H b : Nat) (t : TypeId) (x : Int) (u i : Value) (wr : World) : Prop :=
  ∃ k : Nat, i = .int .i64 ((k : Nat) : Int) ∧ u = .int .i64 (x / wN k) ∧ k ≤ 9 ∧ ArrAt .i64 18 t wr b (objK x k) ∧ Below H w2 wr
theorem all18 {p : Nat → Prop} (h : ∀ i, i < 9 → p i) (h' : ∀ i, i < 9 → p (i + 9)) : ∀ i, i < 18 → p i := by
  intro i hi
  by_cases e : i < 9
  · exact h i e
  · have := h' (i - 9) (by omega)
    rw [show i - 9 + 9 = i by omega] at this; exact this
theorem w9s : wN 0 = 1 ∧ wN 1 = 2 ∧ wN 2 = 4 ∧ wN 3 = 64 ∧ wN 4 = 128 ∧ wN 5 = 256 ∧ wN 6 = 512 ∧ wN 7 = 2048 ∧ wN 8 = 8192 := by decide
theorem obj_laid (x : Int) (r : Nat → Int) : ∀ i, i < 18 → updI (updI (updI (updI (updI (updI (updI (updI (updI (objK x 9) 0 (r 0)) 6 (r 1)) 7 (r 2)) 8 (r 3)) 9 (r 4)) 12 (r 5)) 14 (r 6)) 15 (r 7)) 16 (r 8) i = objF x r i := by
  obtain ⟨e0, e1, e2, e3, e4, e5, e6, e7, e8⟩ := w9s
  refine all18 (all9 ?_ ?_ ?_ ?_ ?_ ?_ ?_ ?_ ?_) (all9 ?_ ?_ ?_ ?_ ?_ ?_ ?_ ?_ ?_)
  all_goals simp [updI, objK, objF, objL, fN, fl, sN, sz, e0, e1, e2, e3, e4, e5, e6, e7, e8]
set_option linter.unusedSimpArgs false in
set_option maxRecDepth 100000 in
set_option maxHeartbeats 1000000 in
theorem objectRef_any (x : Int) (hx0 : 0 ≤ x) (hx1 : x < 4294967296) (r : Nat → Int) (w : World) :
    Calls Tryd.prog 31 #[.int .u32 x, .agg (arr .i64 9 r)] w (ROPost x r w (.int .i64 0) (.int .i64 2)) := by
  go_enter Tryd.func31, Tryd.ntmps31
  go_wp2_with fail
  rw [zero18]
  obtain ⟨w1, hw1⟩ : ∃ w1, w1 = (w.alloc (.cells (arr .i64 9 r) 25)).alloc (.cells (arr .i64 18 (fun _ => 0)) 56) := ⟨_, rfl⟩
  have ha1 : ArrAt .i64 9 25 w1 w.heap.size r := by rw [hw1]; exact (ArrAt.new w _ _ _ _).alloc _
  have ha2 : ArrAt .i64 18 56 w1 (w.heap.size + 1) (fun _ => 0) := by
    have h := ArrAt.new (w.alloc (.cells (arr .i64 9 r) 25)) .i64 18 56 (fun _ => 0)
    rw [hw1]; simpa using h
  have hb1 : Below w.heap.size w w1 := by rw [hw1]; exact ((Below.refl _ _).alloc (Nat.le_refl _) _).alloc (by simp) _
  rw [← hw1]
  clear hw1
  have hl2 := ha2.lt
  refine (fields_any _).mono ?_
  rintro e w2 ⟨A1, A2, rfl, hN1, hN2, hb⟩
  have HA1 := Lib.hid (ha1.keep hb)
  have HA2 := Lib.hid (ha2.keep hb)
  have hs2 := hb.size
  have hb2 := hb1.trans (hb.mono hb1.size)
  have HN1 := Lib.hid hN1
  have HN2 := Lib.hid hN2
  clear ha1 ha2 hb1 hb hN1 hN2
  have hsz : (Tryd.prog.info? 56).map (·.size) = some (arr .i64 18 (fun _ => 0)).size := by rw [arr_size]; exact size18
  have h1c := arr_one .i64 18 (fun _ => 0)
  have hz := zero18
  go_wp2_with (refine wpList_store_row rfl 56 (.tmp 8) (.tmp 16) rfl w2.heap.size _ rfl rfl 56 (arr .i64 18 (fun _ => 0)) (heap_alloc_new _ _) hsz rfl h1c ?_)
  obtain ⟨w3, hw3⟩ : ∃ w3, w3 = (w2.alloc (.cells (arr .i64 18 (fun _ => 0)) 56)).setRow w2.heap.size (arr .i64 18 (fun _ => 0)) := ⟨_, rfl⟩
  have h3 : ArrAt .i64 18 56 w3 w2.heap.size (fun _ => 0) := by rw [hw3]; exact (ArrAt.new w2 _ _ _ _).setRow _
  have hb3 : Below w2.heap.size w2 w3 := by rw [hw3]; exact below_setRow ((Below.refl _ _).alloc (Nat.le_refl _) _) _ _ (Nat.le_refl _)
  rw [← hw3]
  have H3 := Lib.hid h3
  clear hw3 h3 hsz h1c hz
  go_loopw [9, 21] (fun u i wr => RORel w2 w2.heap.size w2.heap.size 56 x u i wr) (fun _ i _ => 9 - (intOf i).toNat)
  case atStart => exact ⟨0, rfl, by simp [wN], by omega, H3.out, hb3⟩
  case round =>
    obtain ⟨k, rfl, rfl, hk, ha, hbel⟩ := hrel
    have HA := Lib.hid ha
    clear ha
    by_cases hlt : k < 9
    · have hj := fN_lt k hlt
      have hs := sN_pos k hlt
      have hw := wN_pos k (by omega)
      obtain ⟨a1, e1, _, g1⟩ := (HN1.out.below hbel).2 k _ (fl_at k hlt)
      obtain ⟨a2, e2, l2, g2⟩ := (HN2.out.below hbel).2 k _ (sz_at k hlt)
      have g3 := HA.out.cell hj
      have g4 := HA.out.frozen (fN k)
      have hn : 0 ≤ x / wN k := Int.ediv_nonneg hx0 (by omega)
      have hq : x / wN k < 4294967296 := Int.lt_of_le_of_lt (Int.ediv_le_self _ hx0) hx1
      have HD : Hid (x / wN k / sN k = x / wN (k + 1)) := by show _ = _; rw [wN, Int.ediv_ediv, if_neg (by omega), Int.sub_zero]
      have HS := Lib.hid (HA.out.set_ (fN k) (x / wN k % sN k))
      obtain ⟨y, hy⟩ : ∃ y, y = x / wN k := ⟨_, rfl⟩
      rw [← hy] at hn hq HD HS ⊢
      have HY := Lib.hid hy
      clear hy
      have b0 : (0 : Int) ≤ ((fN k : Nat) : Int) := by omega
      have b1 : ((fN k : Nat) : Int) < 18 := by omega
      have g5 : (wr.setCell ⟨w2.heap.size, fN k, none⟩ (.int .i64 (y % sN k))).cell? (a2.add k) = some (.int .i64 (sN k)) := by
        rw [World.cell?_setCell_other _ _ _ _ (fun e => by have h := congrArg Addr.block e; rw [addr_block] at h; simp only at h; omega)]; exact g2
      subst e1 e2
      go_wp2_with fail
      go_roundw
      case rel => exact ⟨k + 1, by go_num, by rw [HD.out], by omega, by rw [HY.out] at HS ⊢; exact HS.out, hbel.setCell (by simp) _⟩
      case measure => simp [intOf]; omega
    · obtain rfl : k = 9 := by omega
      have hw9 : wN 9 = 2097152 := by decide
      have hbw : Below w.heap.size w wr := hb2.trans (hbel.mono hb2.size)
      have HR := Lib.hid ((HA2.out.below hbel (by omega)) : ArrAt .i64 18 56 wr (w.heap.size + 1) (fun _ => 0))
      have HI := Lib.hid ((HA1.out.below hbel (by omega)) : ArrAt .i64 9 25 wr w.heap.size r)
      rw [hw9]
      clear hw9
      by_cases hx : x < 2097152
      · have hy : ¬ 0 < x / 2097152 := by omega
        have hdiv : decide (0 < x / 2097152) = false := by simpa using hy
        have hcr : ∀ W, Below w2.heap.size wr W → ∀ i, i < 9 → W.cell? ⟨w.heap.size, i, none⟩ = some (.int .i64 (r i)) := fun W hW i hi => (HI.out.below hW (by omega)).cell hi
        have HX := Lib.hid hx
        have hA := HA.out.drew
        clear hy hx
        go_wp2_with fail
        refine wp_region_held_drew (S := fun W => Below w2.heap.size wr W) (by kernel_rfl) (Below.refl _ _).drew (fun hHeld => ?_)
        refine wpAnyH_take (i := 0) (v := ?_) rfl (by kernel_rfl) (by kernel_rfl) (by kernel_rfl) (fun _ _ _ h => h) (Or.inl ⟨by rfl, ?_⟩) hHeld ?_
        rotate_left
        · (intro w hSw; go_simp; (try with_reducible rfl))
        simp only [Act.put, List.getElem_toArray, List.getElem_cons_zero, List.getElem_cons_succ, List.setIfInBounds_toArray, List.set_cons_zero, List.set_cons_succ]
        refine wpAnyH_take (i := 1) (v := ?_) rfl (by kernel_rfl) (by kernel_rfl) (by kernel_rfl) (fun _ _ _ h => h) (Or.inl ⟨by rfl, ?_⟩) hHeld ?_
        rotate_left
        · (intro w hSw; go_simp; (try with_reducible rfl))
        simp only [Act.put, List.getElem_toArray, List.getElem_cons_zero, List.getElem_cons_succ, List.setIfInBounds_toArray, List.set_cons_zero, List.set_cons_succ]
        refine wpAnyH_take (i := 2) (v := ?_) rfl (by kernel_rfl) (by kernel_rfl) (by kernel_rfl) (fun _ _ _ h => h) (Or.inl ⟨by rfl, ?_⟩) hHeld ?_
        rotate_left
        · (intro w hSw; go_simp; (try with_reducible rfl))
        simp only [Act.put, List.getElem_toArray, List.getElem_cons_zero, List.getElem_cons_succ, List.setIfInBounds_toArray, List.set_cons_zero, List.set_cons_succ]
        refine wpAnyH_take (i := 3) (v := ?_) rfl (by kernel_rfl) (by kernel_rfl) (by kernel_rfl) (fun _ _ _ h => h) (Or.inl ⟨by rfl, ?_⟩) hHeld ?_
        rotate_left
        · (intro w hSw; go_simp; (try with_reducible rfl))
        simp only [Act.put, List.getElem_toArray, List.getElem_cons_zero, List.getElem_cons_succ, List.setIfInBounds_toArray, List.set_cons_zero, List.set_cons_succ]
        refine wpAnyH_take (i := 4) (v := ?_) rfl (by kernel_rfl) (by kernel_rfl) (by kernel_rfl) (fun _ _ _ h => h) (Or.inl ⟨by rfl, ?_⟩) hHeld ?_
        rotate_left
        · (intro w hSw; go_simp; (try with_reducible rfl))
        simp only [Act.put, List.getElem_toArray, List.getElem_cons_zero, List.getElem_cons_succ, List.setIfInBounds_toArray, List.set_cons_zero, List.set_cons_succ]
        refine wpAnyH_take (i := 5) (v := ?_) rfl (by kernel_rfl) (by kernel_rfl) (by kernel_rfl) (fun _ _ _ h => h) (Or.inl ⟨by rfl, ?_⟩) hHeld ?_
        rotate_left
        · (intro w hSw; go_simp; (try with_reducible rfl))
        simp only [Act.put, List.getElem_toArray, List.getElem_cons_zero, List.getElem_cons_succ, List.setIfInBounds_toArray, List.set_cons_zero, List.set_cons_succ]
        refine wpAnyH_take (i := 6) (v := ?_) rfl (by kernel_rfl) (by kernel_rfl) (by kernel_rfl) (fun _ _ _ h => h) (Or.inl ⟨by rfl, ?_⟩) hHeld ?_
        rotate_left
        · (intro w hSw; go_simp; (try with_reducible rfl))
        simp only [Act.put, List.getElem_toArray, List.getElem_cons_zero, List.getElem_cons_succ, List.setIfInBounds_toArray, List.set_cons_zero, List.set_cons_succ]
        refine wpAnyH_take (i := 7) (v := ?_) rfl (by kernel_rfl) (by kernel_rfl) (by kernel_rfl) (fun _ _ _ h => h) (Or.inl ⟨by rfl, ?_⟩) hHeld ?_
        rotate_left
        · (intro w hSw; go_simp; (try with_reducible rfl))
        simp only [Act.put, List.getElem_toArray, List.getElem_cons_zero, List.getElem_cons_succ, List.setIfInBounds_toArray, List.set_cons_zero, List.set_cons_succ]
        refine wpAnyH_take (i := 8) (v := ?_) rfl (by kernel_rfl) (by kernel_rfl) (by kernel_rfl) (fun _ _ _ h => h) (Or.inl ⟨by rfl, ?_⟩) hHeld ?_
        rotate_left
        · (intro w hSw; go_simp; (try with_reducible rfl))
        simp only [Act.put, List.getElem_toArray, List.getElem_cons_zero, List.getElem_cons_succ, List.setIfInBounds_toArray, List.set_cons_zero, List.set_cons_succ]
        refine wpAnyH_take (i := 9) (v := ?_) rfl (by kernel_rfl) (by kernel_rfl) (by kernel_rfl) (fun _ _ _ h => h) (Or.inl ⟨by rfl, ?_⟩) hHeld ?_
        rotate_left
        · (intro w hSw; go_simp; (try with_reducible rfl))
        simp only [Act.put, List.getElem_toArray, List.getElem_cons_zero, List.getElem_cons_succ, List.setIfInBounds_toArray, List.set_cons_zero, List.set_cons_succ]
        refine wpAnyH_take (i := 10) (v := ?_) rfl (by kernel_rfl) (by kernel_rfl) (by kernel_rfl) (fun _ _ _ h => h) (Or.inl ⟨by rfl, ?_⟩) hHeld ?_
        rotate_left
        · (intro w hSw; go_simp; (try with_reducible rfl))
        simp only [Act.put, List.getElem_toArray, List.getElem_cons_zero, List.getElem_cons_succ, List.setIfInBounds_toArray, List.set_cons_zero, List.set_cons_succ]
        refine wpAnyH_take (i := 11) (v := ?_) rfl (by kernel_rfl) (by kernel_rfl) (by kernel_rfl) (fun _ _ _ h => h) (Or.inl ⟨by rfl, ?_⟩) hHeld ?_
        rotate_left
        · (intro w hSw; go_simp; (try with_reducible rfl))
        simp only [Act.put, List.getElem_toArray, List.getElem_cons_zero, List.getElem_cons_succ, List.setIfInBounds_toArray, List.set_cons_zero, List.set_cons_succ]
        refine wpAnyH_take (i := 12) (v := ?_) rfl (by kernel_rfl) (by kernel_rfl) (by kernel_rfl) (fun _ _ _ h => h) (Or.inl ⟨by rfl, ?_⟩) hHeld ?_
        rotate_left
        · (intro w hSw; go_simp; (try with_reducible rfl))
        simp only [Act.put, List.getElem_toArray, List.getElem_cons_zero, List.getElem_cons_succ, List.setIfInBounds_toArray, List.set_cons_zero, List.set_cons_succ]
        refine wpAnyH_take (i := 13) (v := ?_) rfl (by kernel_rfl) (by kernel_rfl) (by kernel_rfl) (fun _ _ _ h => h) (Or.inl ⟨by rfl, ?_⟩) hHeld ?_
        rotate_left
        · (intro w hSw; go_simp; (try with_reducible rfl))
        simp only [Act.put, List.getElem_toArray, List.getElem_cons_zero, List.getElem_cons_succ, List.setIfInBounds_toArray, List.set_cons_zero, List.set_cons_succ]
        refine wpAnyH_take (i := 14) (v := ?_) rfl (by kernel_rfl) (by kernel_rfl) (by kernel_rfl) (fun _ _ _ h => h) (Or.inl ⟨by rfl, ?_⟩) hHeld ?_
        rotate_left
        · (intro w hSw; go_simp; (try with_reducible rfl))
        simp only [Act.put, List.getElem_toArray, List.getElem_cons_zero, List.getElem_cons_succ, List.setIfInBounds_toArray, List.set_cons_zero, List.set_cons_succ]
        refine wpAnyH_take (i := 15) (v := ?_) rfl (by kernel_rfl) (by kernel_rfl) (by kernel_rfl) (fun _ _ _ h => h) (Or.inl ⟨by rfl, ?_⟩) hHeld ?_
        rotate_left
        · (intro w hSw; go_simp; (try with_reducible rfl))
        simp only [Act.put, List.getElem_toArray, List.getElem_cons_zero, List.getElem_cons_succ, List.setIfInBounds_toArray, List.set_cons_zero, List.set_cons_succ]
        refine wpAnyH_take (i := 16) (v := ?_) rfl (by kernel_rfl) (by kernel_rfl) (by kernel_rfl) (fun _ _ _ h => h) (Or.inl ⟨by rfl, ?_⟩) hHeld ?_
        rotate_left
        · (intro w hSw; go_simp; (try with_reducible rfl))
        simp only [Act.put, List.getElem_toArray, List.getElem_cons_zero, List.getElem_cons_succ, List.setIfInBounds_toArray, List.set_cons_zero, List.set_cons_succ]
        refine wpAnyH_take (i := 17) (v := ?_) rfl (by kernel_rfl) (by kernel_rfl) (by kernel_rfl) (fun _ _ _ h => h) (Or.inl ⟨by rfl, ?_⟩) hHeld ?_
        rotate_left
        · (intro w hSw; go_simp; (try with_reducible rfl))
        simp only [Act.put, List.getElem_toArray, List.getElem_cons_zero, List.getElem_cons_succ, List.setIfInBounds_toArray, List.set_cons_zero, List.set_cons_succ]
        generalize wr.drew = W0 at hA hHeld ⊢
        clear hcr
        refine wpAnyH_take (i := 18) (v := ?_) rfl (by kernel_rfl) (by kernel_rfl) (by kernel_rfl) (fun _ _ _ h => h) (Or.inl ⟨by rfl, ?_⟩) hHeld ?_
        rotate_left
        · (intro w hSw; go_simp; (try with_reducible rfl))
        simp only [Act.put, List.getElem_toArray, List.getElem_cons_zero, List.getElem_cons_succ, List.setIfInBounds_toArray, List.set_cons_zero, List.set_cons_succ]
        refine wpAnyH_ready (rs := [19]) (by kernel_rfl) (by simp) ?_
        refine AllReadyH.cons rfl (fun K hK => ?_) AllReadyH.nil
        simp only [List.getElem_toArray, List.getElem_cons_zero, List.getElem_cons_succ]
        have q1 := hA.cell (i := 0) (by omega)
        have q2 := hA.frozen 0
        go_simp
        have hB := hHeld.setCell (p := ⟨w2.heap.size, 0, none⟩) (Nat.le_refl _) (.int .i64 (r 0))
        refine hK.out _ _ hB (fun _ => ?_)
        clear hK K q1 q2 hHeld
        have hHeld := hB
        have hA2 := hA.set_ 0 (r 0)
        clear hA hB
        have hA := hA2
        clear hA2
        generalize W0.setCell ⟨w2.heap.size, 0, none⟩ (.int .i64 (r 0)) = W1 at hA hHeld ⊢
        refine wpAnyH_take (i := 20) (v := ?_) rfl (by kernel_rfl) (by kernel_rfl) (by kernel_rfl) (fun _ _ _ h => h) (Or.inl ⟨by rfl, ?_⟩) hHeld ?_
        rotate_left
        · (intro w hSw; go_simp; (try with_reducible rfl))
        simp only [Act.put, List.getElem_toArray, List.getElem_cons_zero, List.getElem_cons_succ, List.setIfInBounds_toArray, List.set_cons_zero, List.set_cons_succ]
        refine wpAnyH_ready (rs := [21]) (by kernel_rfl) (by simp) ?_
        refine AllReadyH.cons rfl (fun K hK => ?_) AllReadyH.nil
        simp only [List.getElem_toArray, List.getElem_cons_zero, List.getElem_cons_succ]
        have q1 := hA.cell (i := 6) (by omega)
        have q2 := hA.frozen 6
        go_simp
        have hB := hHeld.setCell (p := ⟨w2.heap.size, 6, none⟩) (Nat.le_refl _) (.int .i64 (r 1))
        refine hK.out _ _ hB (fun _ => ?_)
        clear hK K q1 q2 hHeld
        have hHeld := hB
        have hA2 := hA.set_ 6 (r 1)
        clear hA hB
        have hA := hA2
        clear hA2
        generalize W1.setCell ⟨w2.heap.size, 6, none⟩ (.int .i64 (r 1)) = W2 at hA hHeld ⊢
        refine wpAnyH_take (i := 22) (v := ?_) rfl (by kernel_rfl) (by kernel_rfl) (by kernel_rfl) (fun _ _ _ h => h) (Or.inl ⟨by rfl, ?_⟩) hHeld ?_
        rotate_left
        · (intro w hSw; go_simp; (try with_reducible rfl))
        simp only [Act.put, List.getElem_toArray, List.getElem_cons_zero, List.getElem_cons_succ, List.setIfInBounds_toArray, List.set_cons_zero, List.set_cons_succ]
        refine wpAnyH_ready (rs := [23]) (by kernel_rfl) (by simp) ?_
        refine AllReadyH.cons rfl (fun K hK => ?_) AllReadyH.nil
        simp only [List.getElem_toArray, List.getElem_cons_zero, List.getElem_cons_succ]
        have q1 := hA.cell (i := 7) (by omega)
        have q2 := hA.frozen 7
        go_simp
        have hB := hHeld.setCell (p := ⟨w2.heap.size, 7, none⟩) (Nat.le_refl _) (.int .i64 (r 2))
        refine hK.out _ _ hB (fun _ => ?_)
        clear hK K q1 q2 hHeld
        have hHeld := hB
        have hA2 := hA.set_ 7 (r 2)
        clear hA hB
        have hA := hA2
        clear hA2
        generalize W2.setCell ⟨w2.heap.size, 7, none⟩ (.int .i64 (r 2)) = W3 at hA hHeld ⊢
        refine wpAnyH_take (i := 24) (v := ?_) rfl (by kernel_rfl) (by kernel_rfl) (by kernel_rfl) (fun _ _ _ h => h) (Or.inl ⟨by rfl, ?_⟩) hHeld ?_
        rotate_left
        · (intro w hSw; go_simp; (try with_reducible rfl))
        simp only [Act.put, List.getElem_toArray, List.getElem_cons_zero, List.getElem_cons_succ, List.setIfInBounds_toArray, List.set_cons_zero, List.set_cons_succ]
        refine wpAnyH_ready (rs := [25]) (by kernel_rfl) (by simp) ?_
        refine AllReadyH.cons rfl (fun K hK => ?_) AllReadyH.nil
        simp only [List.getElem_toArray, List.getElem_cons_zero, List.getElem_cons_succ]
        have q1 := hA.cell (i := 8) (by omega)
        have q2 := hA.frozen 8
        go_simp
        have hB := hHeld.setCell (p := ⟨w2.heap.size, 8, none⟩) (Nat.le_refl _) (.int .i64 (r 3))
        refine hK.out _ _ hB (fun _ => ?_)
        clear hK K q1 q2 hHeld
        have hHeld := hB
        have hA2 := hA.set_ 8 (r 3)
        clear hA hB
        have hA := hA2
        clear hA2
        generalize W3.setCell ⟨w2.heap.size, 8, none⟩ (.int .i64 (r 3)) = W4 at hA hHeld ⊢
        refine wpAnyH_take (i := 26) (v := ?_) rfl (by kernel_rfl) (by kernel_rfl) (by kernel_rfl) (fun _ _ _ h => h) (Or.inl ⟨by rfl, ?_⟩) hHeld ?_
        rotate_left
        · (intro w hSw; go_simp; (try with_reducible rfl))
        simp only [Act.put, List.getElem_toArray, List.getElem_cons_zero, List.getElem_cons_succ, List.setIfInBounds_toArray, List.set_cons_zero, List.set_cons_succ]
        refine wpAnyH_ready (rs := [27]) (by kernel_rfl) (by simp) ?_
        refine AllReadyH.cons rfl (fun K hK => ?_) AllReadyH.nil
        simp only [List.getElem_toArray, List.getElem_cons_zero, List.getElem_cons_succ]
        have q1 := hA.cell (i := 9) (by omega)
        have q2 := hA.frozen 9
        go_simp
        have hB := hHeld.setCell (p := ⟨w2.heap.size, 9, none⟩) (Nat.le_refl _) (.int .i64 (r 4))
        refine hK.out _ _ hB (fun _ => ?_)
        clear hK K q1 q2 hHeld
        have hHeld := hB
        have hA2 := hA.set_ 9 (r 4)
        clear hA hB
        have hA := hA2
        clear hA2
        generalize W4.setCell ⟨w2.heap.size, 9, none⟩ (.int .i64 (r 4)) = W5 at hA hHeld ⊢
        refine wpAnyH_take (i := 28) (v := ?_) rfl (by kernel_rfl) (by kernel_rfl) (by kernel_rfl) (fun _ _ _ h => h) (Or.inl ⟨by rfl, ?_⟩) hHeld ?_
        rotate_left
        · (intro w hSw; go_simp; (try with_reducible rfl))
        simp only [Act.put, List.getElem_toArray, List.getElem_cons_zero, List.getElem_cons_succ, List.setIfInBounds_toArray, List.set_cons_zero, List.set_cons_succ]
        refine wpAnyH_ready (rs := [29]) (by kernel_rfl) (by simp) ?_
        refine AllReadyH.cons rfl (fun K hK => ?_) AllReadyH.nil
        simp only [List.getElem_toArray, List.getElem_cons_zero, List.getElem_cons_succ]
        have q1 := hA.cell (i := 12) (by omega)
        have q2 := hA.frozen 12
        go_simp
        have hB := hHeld.setCell (p := ⟨w2.heap.size, 12, none⟩) (Nat.le_refl _) (.int .i64 (r 5))
        refine hK.out _ _ hB (fun _ => ?_)
        clear hK K q1 q2 hHeld
        have hHeld := hB
        have hA2 := hA.set_ 12 (r 5)
        clear hA hB
        have hA := hA2
        clear hA2
        generalize W5.setCell ⟨w2.heap.size, 12, none⟩ (.int .i64 (r 5)) = W6 at hA hHeld ⊢
        refine wpAnyH_take (i := 30) (v := ?_) rfl (by kernel_rfl) (by kernel_rfl) (by kernel_rfl) (fun _ _ _ h => h) (Or.inl ⟨by rfl, ?_⟩) hHeld ?_
        rotate_left
        · (intro w hSw; go_simp; (try with_reducible rfl))
        simp only [Act.put, List.getElem_toArray, List.getElem_cons_zero, List.getElem_cons_succ, List.setIfInBounds_toArray, List.set_cons_zero, List.set_cons_succ]
        refine wpAnyH_ready (rs := [31]) (by kernel_rfl) (by simp) ?_
        refine AllReadyH.cons rfl (fun K hK => ?_) AllReadyH.nil
        simp only [List.getElem_toArray, List.getElem_cons_zero, List.getElem_cons_succ]
        have q1 := hA.cell (i := 14) (by omega)
        have q2 := hA.frozen 14
        go_simp
        have hB := hHeld.setCell (p := ⟨w2.heap.size, 14, none⟩) (Nat.le_refl _) (.int .i64 (r 6))
        refine hK.out _ _ hB (fun _ => ?_)
        clear hK K q1 q2 hHeld
        have hHeld := hB
        have hA2 := hA.set_ 14 (r 6)
        clear hA hB
        have hA := hA2
        clear hA2
        generalize W6.setCell ⟨w2.heap.size, 14, none⟩ (.int .i64 (r 6)) = W7 at hA hHeld ⊢
        refine wpAnyH_take (i := 32) (v := ?_) rfl (by kernel_rfl) (by kernel_rfl) (by kernel_rfl) (fun _ _ _ h => h) (Or.inl ⟨by rfl, ?_⟩) hHeld ?_
        rotate_left
        · (intro w hSw; go_simp; (try with_reducible rfl))
        simp only [Act.put, List.getElem_toArray, List.getElem_cons_zero, List.getElem_cons_succ, List.setIfInBounds_toArray, List.set_cons_zero, List.set_cons_succ]
        refine wpAnyH_ready (rs := [33]) (by kernel_rfl) (by simp) ?_
        refine AllReadyH.cons rfl (fun K hK => ?_) AllReadyH.nil
        simp only [List.getElem_toArray, List.getElem_cons_zero, List.getElem_cons_succ]
        have q1 := hA.cell (i := 15) (by omega)
        have q2 := hA.frozen 15
        go_simp
        have hB := hHeld.setCell (p := ⟨w2.heap.size, 15, none⟩) (Nat.le_refl _) (.int .i64 (r 7))
        refine hK.out _ _ hB (fun _ => ?_)
        clear hK K q1 q2 hHeld
        have hHeld := hB
        have hA2 := hA.set_ 15 (r 7)
        clear hA hB
        have hA := hA2
        clear hA2
        generalize W7.setCell ⟨w2.heap.size, 15, none⟩ (.int .i64 (r 7)) = W8 at hA hHeld ⊢
        refine wpAnyH_take (i := 34) (v := ?_) rfl (by kernel_rfl) (by kernel_rfl) (by kernel_rfl) (fun _ _ _ h => h) (Or.inl ⟨by rfl, ?_⟩) hHeld ?_
        rotate_left
        · (intro w hSw; go_simp; (try with_reducible rfl))
        simp only [Act.put, List.getElem_toArray, List.getElem_cons_zero, List.getElem_cons_succ, List.setIfInBounds_toArray, List.set_cons_zero, List.set_cons_succ]
        refine wpAnyH_ready (rs := [35]) (by kernel_rfl) (by simp) ?_
        refine AllReadyH.cons rfl (fun K hK => ?_) AllReadyH.nil
        simp only [List.getElem_toArray, List.getElem_cons_zero, List.getElem_cons_succ]
        have q1 := hA.cell (i := 16) (by omega)
        have q2 := hA.frozen 16
        go_simp
        have hB := hHeld.setCell (p := ⟨w2.heap.size, 16, none⟩) (Nat.le_refl _) (.int .i64 (r 8))
        refine hK.out _ _ hB (fun _ => ?_)
        clear hK K q1 q2 hHeld
        have hHeld := hB
        have hA2 := hA.set_ 16 (r 8)
        clear hA hB
        have hA := hA2
        clear hA2
        generalize W8.setCell ⟨w2.heap.size, 16, none⟩ (.int .i64 (r 8)) = W9 at hA hHeld ⊢
        refine wpAnyH_done (by kernel_rfl) ?_ _
        have hO := hA.congr (obj_laid x r)
        have hR := HR.out.below hHeld (by omega)
        have hbW : Below w.heap.size w W9 := hbw.trans (hHeld.mono hb2.size)
        have HO := Lib.hid hO
        have HR9 := Lib.hid hR
        clear hA hO hR
        have hsz : (Tryd.prog.info? 56).map (·.size) = some (arr .i64 18 (objF x r)).size := by rw [arr_size]; exact size18
        have h1c := arr_one .i64 18 (objF x r)
        go_wp2_with (first
          | (refine wpList_load_row rfl 56 (.tmp 8) rfl w2.heap.size rfl 56 _ (0, 0) _ HO.out Tryd.underlying56 rfl hsz ?_)
          | (refine wpList_store_row rfl 56 (.tmp 4) (.tmp 71) rfl (w.heap.size + 1) _ rfl rfl 56 (arr .i64 18 (fun _ => 0)) HR9.out hsz (by rw [arr_size, arr_size]) h1c ?_))
        refine bodyPost_ret (v := .tuple #[.agg (arr .i64 18 (objF x r)), .int .i64 0]) ?_ rfl ⟨.inl ⟨HX.out, rfl⟩, below_setRow hbW _ _ (by omega)⟩
        exact results_cell_tmp (ty := 56) (p := 4) (q := 5) (by kernel_rfl) _ _ (w.heap.size + 1) 56 _ (0, 0) _ rfl (HR9.out.setRow _) Tryd.underlying56 rfl hsz
      · have hy : 0 < x / 2097152 := by omega
        have hsz : (Tryd.prog.info? 56).map (·.size) = some (arr .i64 18 (fun _ => 0)).size := by rw [arr_size]; exact size18
        have h1c := arr_one .i64 18 (fun _ => 0)
        have hz := zero18
        go_wp2_with (refine wpList_store_row rfl 56 (.tmp 4) (.tmp 43) rfl (w.heap.size + 1) _ rfl rfl 56 (arr .i64 18 (fun _ => 0)) HR.out hsz rfl h1c ?_)
        refine bodyPost_ret (v := .tuple #[.agg (arr .i64 18 (fun _ => 0)), .int .i64 2]) ?_ rfl ⟨.inr ⟨by omega, rfl⟩, below_setRow hbw _ _ (by omega)⟩
        exact results_cell_tmp (ty := 56) (p := 4) (q := 5) (by kernel_rfl) _ _ (w.heap.size + 1) 56 _ (0, 0) _ rfl (HR.out.setRow _) Tryd.underlying56 rfl hsz
end Go.Proofs.YtihbdbgmijkjmaaDoor
