/- Layer 3: the landed code's Object. -/
import Derived.Test.YtbnmajajnjphpaaDoorPackC
namespace Go.Proofs.YtbnmajajnjphpaaDoor
open Go.RowKit Px Bx
attribute [local go_sem] arr_get
/-- The object behind the first k fields of the rest. -/
def objR (x : Int) (r : Nat → Int) : Nat → Nat → Int
  | 0 => objK x 9
  | k + 1 => updI (objR x r k) (olN k) (r k)
theorem objR_all (x : Int) (r : Nat → Int) : ∀ i, i < 18 → objR x r 9 i = objF x r i := obj_laid x r
def ObRel (w5 : World) (H g : Nat) (x : Int) (i : Value) (wr : World) : Prop :=
  ∃ k : Nat, i = .int .i64 ((k : Nat) : Int) ∧ k ≤ 9 ∧ ArrAt .i64 18 23 wr g (objK x k) ∧ Below H w5 wr
def ObRel2 (w5 : World) (H g : Nat) (x : Int) (r : Nat → Int) (i : Value) (wr : World) : Prop :=
  ∃ k : Nat, i = .int .i64 ((k : Nat) : Int) ∧ k ≤ 9 ∧ ArrAt .i64 18 23 wr g (objR x r k) ∧ Below H w5 wr
/-- What stands while a part is read and stored: the part's own cells, and all below block B. -/
def HeldP (wr : World) (B g : Nat) (a b c : Int) (W : World) : Prop := W.cell? ⟨g, 0, none⟩ = some (.int .i64 a) ∧ W.cell? ⟨g, 1, none⟩ = some (.int .i64 b) ∧ W.cell? ⟨g, 2, none⟩ = some (.int .i64 c) ∧ Below B wr W
theorem HeldP.drewN {wr W : World} {B g : Nat} {a b c : Int} (h : HeldP wr B g a b c W) (m : Nat) : HeldP wr B g a b c (W.drewN m) := ⟨h.1, h.2.1, h.2.2.1, below_drewN h.2.2.2 m⟩
theorem HeldP.store {wr W : World} {B g : Nat} {a b c : Int} (h : HeldP wr B g a b c W) {p : Addr} (hp : B ≤ p.block) (hg : p.block ≠ g) (v : Value) : HeldP wr B g a b c (W.setCell p v) := by
  have e : ∀ i, (W.setCell p v).cell? ⟨g, i, none⟩ = W.cell? ⟨g, i, none⟩ := fun i => World.cell?_setCell_other _ _ _ _ (fun e => hg (by have h := congrArg Addr.block e; simpa using h))
  exact ⟨(e 0).trans h.1, (e 1).trans h.2.1, (e 2).trans h.2.2.1, h.2.2.2.setCell hp _⟩
theorem shr21 (x : Int) (h : x < 2097152) (h0 : 0 ≤ x) : (x / 2097152 != 0) = false := by simp; omega
theorem shr21' (x : Int) (h : 2097152 ≤ x) : (x / 2097152 != 0) = true := by simp; omega
set_option maxRecDepth 100000 in
set_option maxHeartbeats 1000000 in
theorem object_form (x : Int) (r : Nat → Int) (w : World) (hx : 2097152 ≤ x) (hx1 : x < 4294967296) :
    Calls Tryd.prog 13 #[.int .u32 x, .agg (arr .i64 9 r)] w (ROPost x r w .nilIface (.iface 54 (.int .i64 2))) := by
  have hne := shr21' x hx
  have hx0 : 0 ≤ x := by omega
  go_enter Tryd.func13, Tryd.ntmps13
  go_upto_region 1 with fail
  rw [zero18]
  obtain ⟨w2, hw2⟩ : ∃ w2, w2 = (w.alloc (.cells (arr .i64 9 r) 33)).alloc (.cells (arr .i64 18 (fun _ => 0)) 23) := ⟨_, rfl⟩
  have ha2 : ArrAt .i64 18 23 w2 (w.heap.size + 1) (fun _ => 0) := by
    have h := ArrAt.new (w.alloc (.cells (arr .i64 9 r) 33)) .i64 18 23 (fun _ => 0)
    rw [hw2]; simpa using h
  have hb2 : Below w.heap.size w w2 := by rw [hw2]; exact ((Below.refl _ _).alloc (Nat.le_refl _) _).alloc (by simp) _
  rw [← hw2]
  clear hw2
  have hsz : (Tryd.prog.info? 23).map (·.size) = some (arr .i64 18 (fun _ => 0)).size := by rw [arr_size]; exact size18
  have h1c := arr_one .i64 18 (fun _ => 0)
  have hz := zero18
  go_wp2_with (refine wpList_store_row rfl 23 (.tmp 4) (.tmp 14) rfl (w.heap.size + 1) _ rfl rfl 23 (arr .i64 18 (fun _ => 0)) ha2 hsz rfl h1c ?_)
  refine bodyPost_ret (v := .tuple #[.agg (arr .i64 18 (fun _ => 0)), .iface 54 (.int .i64 2)]) ?_ rfl ⟨.inr ⟨hx, rfl⟩, below_setRow hb2 _ _ (by omega)⟩
  exact results_cell_tmp (ty := 23) (p := 4) (q := 5) (by kernel_rfl) _ _ (w.heap.size + 1) 23 _ (0, 0) _ rfl (ha2.setRow _) Tryd.underlying23 rfl hsz
set_option linter.unusedSimpArgs false in
set_option maxRecDepth 100000 in
set_option maxHeartbeats 2000000 in
theorem object_yes {z : World} (TP : TabP z) (TO : TabO z) (x : Int) (r : Nat → Int) (w : World) (hx0 : 0 ≤ x) (hx : x < 2097152) (hz : Below z.heap.size z w) :
    Calls Tryd.prog 13 #[.int .u32 x, .agg (arr .i64 9 r)] w (ROPost x r w .nilIface (.iface 54 (.int .i64 2))) := by
  obtain ⟨t, ht⟩ := TP.keep hz
  obtain ⟨u, hu⟩ := TO.keep hz
  have hne := shr21 x hx hx0
  have hx1 : x < 4294967296 := by omega
  go_enter Tryd.func13, Tryd.ntmps13
  go_upto_region 4 with fail
  rw [zero18]
  obtain ⟨w3, hw3⟩ : ∃ w3, w3 = ((w.alloc (.cells (arr .i64 9 r) 33)).alloc (.cells (arr .i64 18 (fun _ => 0)) 23)).alloc (.cells (arr .i64 18 (fun _ => 0)) 23) := ⟨_, rfl⟩
  have ha1 : ArrAt .i64 9 33 w3 w.heap.size r := by rw [hw3]; exact ((ArrAt.new w _ _ _ _).alloc _).alloc _
  have ha2 : ArrAt .i64 18 23 w3 (w.heap.size + 1) (fun _ => 0) := by
    have h := (ArrAt.new (w.alloc (.cells (arr .i64 9 r) 33)) .i64 18 23 (fun _ => 0)).alloc (.cells (arr .i64 18 (fun _ => 0)) 23)
    rw [hw3]; simpa using h
  have ha3 : ArrAt .i64 18 23 w3 (w.heap.size + 2) (fun _ => 0) := by
    have h := ArrAt.new ((w.alloc (.cells (arr .i64 9 r) 33)).alloc (.cells (arr .i64 18 (fun _ => 0)) 23)) .i64 18 23 (fun _ => 0)
    rw [hw3]; simpa using h
  have hb3 : Below w.heap.size w w3 := by rw [hw3]; exact (((Below.refl _ _).alloc (Nat.le_refl _) _).alloc (by simp) _).alloc (by simp; omega) _
  rw [← hw3]
  have hs3 := ha3.lt
  have hT : w3.heap[0]? = some (.cells partsV.toArray t (0, 0)) := (hb3.block _ (Array.getElem?_eq_some_iff.1 ht).1).trans ht
  have gO : 1 < w.heap.size := (Array.getElem?_eq_some_iff.1 hu).1
  have HO := Lib.hid ((hb3.block _ gO).trans hu)
  clear hw3 ht hu
  have HA1 := Lib.hid ha1
  have HA2 := Lib.hid ha2
  have HA3 := Lib.hid ha3
  have HZ := Lib.hid hne
  clear ha1 ha2 ha3 hne
  have hsz : (Tryd.prog.info? 51).map (·.size) = some partsV.toArray.size := sizeP
  go_upto_region 5 with (refine wpList_load_row rfl 51 _ rfl 0 rfl t partsV.toArray (0, 0) _ hT Tryd.underlying51 rfl hsz ?_)
  clear hT hsz
  go_loopw [17] (fun i wr => ObRel w3 (w.heap.size + 2) (w.heap.size + 2) x i wr) (fun i _ => 9 - (intOf i).toNat)
  case atStart => exact ⟨0, rfl, by omega, HA3.out, Below.refl _ _⟩
  case round =>
    obtain ⟨k, rfl, hk, ha, hbel⟩ := hrel
    have HA := Lib.hid ha
    clear ha
    by_cases hlt : k < 9
    · have hj := fN_lt k hlt
      have hix := index_part k hlt
      obtain ⟨s, y, e1, e2, e3, e4, e5⟩ := part_field hlt hx0 hx1
      have HY := Lib.hid e3
      have HE := Lib.hid e4
      clear e3 e4
      have hsl := HA.out.lt
      go_upto_region 7 with fail
      obtain ⟨w5, hw5⟩ : ∃ w5, w5 = wr.alloc (.cells #[.int .i64 (fN k : Nat), .int .i64 (plN k : Nat), .int .i64 (wdN k : Nat)] 50) := ⟨_, rfl⟩
      have hb5 : Below wr.heap.size wr w5 := by rw [hw5]; exact (Below.refl _ _).alloc (Nat.le_refl _) _
      have c5 : w5.heap[wr.heap.size]? = some (.cells #[.int .i64 (fN k : Nat), .int .i64 (plN k : Nat), .int .i64 (wdN k : Nat)] 50 (0, 0)) := by rw [hw5]; exact heap_alloc_new _ _
      have l5 : wr.heap.size < w5.heap.size := (Array.getElem?_eq_some_iff.1 c5).1
      rw [← hw5]
      have hH : HeldP wr (w.heap.size + 2) wr.heap.size (fN k : Nat) (plN k : Nat) (wdN k : Nat) w5 := ⟨by rw [cell_of_row w5 wr.heap.size 0 _ _ _ c5]; rfl, by rw [cell_of_row w5 wr.heap.size 1 _ _ _ c5]; rfl, by rw [cell_of_row w5 wr.heap.size 2 _ _ _ c5]; rfl, hb5.mono (by omega)⟩
      have c0 : ∀ W, HeldP wr (w.heap.size + 2) wr.heap.size (fN k : Nat) (plN k : Nat) (wdN k : Nat) W → W.cell? ⟨wr.heap.size, 0, none⟩ = some (.int .i64 (fN k : Nat)) := fun W hW => hW.1
      have c1 : ∀ W, HeldP wr (w.heap.size + 2) wr.heap.size (fN k : Nat) (plN k : Nat) (wdN k : Nat) W → W.cell? ⟨wr.heap.size, 1, none⟩ = some (.int .i64 (plN k : Nat)) := fun W hW => hW.2.1
      have c2 : ∀ W, HeldP wr (w.heap.size + 2) wr.heap.size (fN k : Nat) (plN k : Nat) (wdN k : Nat) W → W.cell? ⟨wr.heap.size, 2, none⟩ = some (.int .i64 (wdN k : Nat)) := fun W hW => hW.2.2.1
      clear c5 hw5 hix
      have HA5 := Lib.hid (HA.out.keep hb5)
      have b0 : (0 : Int) ≤ ((fN k : Nat) : Int) := by omega
      have b1 : ((fN k : Nat) : Int) < 18 := by omega
      refine wp_region_held_drew (S := HeldP wr (w.heap.size + 2) wr.heap.size (fN k : Nat) (plN k : Nat) (wdN k : Nat)) (by kernel_rfl) (hH.drewN 1) (fun hHeld => ?_)
      refine wpAnyH_take (i := 0) (v := ?_) rfl (by kernel_rfl) (by kernel_rfl) (by kernel_rfl) (fun _ _ _ h => h) (Or.inl ⟨by rfl, ?_⟩) hHeld ?_
      rotate_left
      · (intro w hSw; go_simp; (try with_reducible rfl))
      simp only [Act.put, List.getElem_toArray, List.getElem_cons_zero, List.getElem_cons_succ, List.setIfInBounds_toArray, List.set_cons_zero, List.set_cons_succ]
      refine wpAnyH_take (i := 1) (v := ?_) rfl (by kernel_rfl) (by kernel_rfl) (by kernel_rfl) (fun _ _ _ h => h) (Or.inl ⟨by rfl, ?_⟩) hHeld ?_
      rotate_left
      · (intro w hSw; go_simp; (try with_reducible rfl))
      simp only [Act.put, List.getElem_toArray, List.getElem_cons_zero, List.getElem_cons_succ, List.setIfInBounds_toArray, List.set_cons_zero, List.set_cons_succ]
      refine wpAnyH_take (i := 2) (v := ?_) rfl (by kernel_rfl) (by kernel_rfl) (by kernel_rfl) (fun _ _ _ h => h) (Or.inl ⟨by rfl, ?_⟩) hHeld ?_
      rotate_left
      · (intro w hSw; go_simp; (try with_reducible rfl))
      simp only [Act.put, List.getElem_toArray, List.getElem_cons_zero, List.getElem_cons_succ, List.setIfInBounds_toArray, List.set_cons_zero, List.set_cons_succ]
      refine wpAnyH_take (i := 3) (v := ?_) rfl (by kernel_rfl) (by kernel_rfl) (by kernel_rfl) (fun _ _ _ h => h) (Or.inl ⟨by rfl, ?_⟩) hHeld ?_
      rotate_left
      · (intro w hSw; go_simp; (try with_reducible rfl))
      simp only [Act.put, List.getElem_toArray, List.getElem_cons_zero, List.getElem_cons_succ, List.setIfInBounds_toArray, List.set_cons_zero, List.set_cons_succ]
      refine wpAnyH_take (i := 4) (v := ?_) rfl (by kernel_rfl) (by kernel_rfl) (by kernel_rfl) (fun _ _ _ h => h) (Or.inl ⟨by rfl, ?_⟩) hHeld ?_
      rotate_left
      · (intro w hSw; go_simp; (try with_reducible rfl))
      simp only [Act.put, List.getElem_toArray, List.getElem_cons_zero, List.getElem_cons_succ, List.setIfInBounds_toArray, List.set_cons_zero, List.set_cons_succ]
      refine wpAnyH_take (i := 5) (v := ?_) rfl (by kernel_rfl) (by kernel_rfl) (by kernel_rfl) (fun _ _ _ h => h) (Or.inl ⟨by rfl, ?_⟩) hHeld ?_
      rotate_left
      · (intro w hSw; go_simp; (try with_reducible rfl))
      simp only [Act.put, List.getElem_toArray, List.getElem_cons_zero, List.getElem_cons_succ, List.setIfInBounds_toArray, List.set_cons_zero, List.set_cons_succ]
      refine wpAnyH_take (i := 6) (v := ?_) rfl (by kernel_rfl) (by kernel_rfl) (by kernel_rfl) (fun _ _ _ h => h) (Or.inl ⟨by rfl, ?_⟩) hHeld ?_
      rotate_left
      · (intro w hSw; go_simp; (try with_reducible rfl))
      simp only [Act.put, List.getElem_toArray, List.getElem_cons_zero, List.getElem_cons_succ, List.setIfInBounds_toArray, List.set_cons_zero, List.set_cons_succ]
      refine wpAnyH_take (i := 7) (v := ?_) rfl (by kernel_rfl) (by kernel_rfl) (by kernel_rfl) (fun _ _ _ h => h) (Or.inl ⟨by rfl, ?_⟩) hHeld ?_
      rotate_left
      · (intro w hSw; go_simp; (try with_reducible rfl))
      simp only [Act.put, List.getElem_toArray, List.getElem_cons_zero, List.getElem_cons_succ, List.setIfInBounds_toArray, List.set_cons_zero, List.set_cons_succ]
      refine wpAnyH_ready (rs := [8]) (by kernel_rfl) (by simp) ?_
      refine AllReadyH.cons rfl (fun K hK => ?_) AllReadyH.nil
      simp only [List.getElem_toArray, List.getElem_cons_zero, List.getElem_cons_succ]
      go_simp
      refine (part_yes s e2 _ _ (part_is k hlt) _).mono ?_
      rintro e w' ⟨rfl, m, rfl⟩
      rw [show partB s ((plN k : Nat) : Int).toNat ((wdN k : Nat) : Int).toNat = y from HY.out]
      have hA7 : ArrAt .i64 18 23 (w5.drew.drewN m) (w.heap.size + 2) (objK x k) := HA5.out
      have hB7 := hHeld.drewN m
      clear hHeld
      refine hK.out _ _ hB7 (fun _ => ?_)
      clear hK K
      try simp only [Act.put, List.setIfInBounds_toArray, List.set_cons_zero, List.set_cons_succ]
      generalize w5.drew.drewN m = W0 at hA7 hB7 ⊢
      clear e1
      have hHeld := hB7
      have hwy : IntKind.i64.wrap (y : Int) = (y : Int) := by rw [IntKind.wrap_i64]; omega
      refine wpAnyH_take (i := 9) (v := ?_) rfl (by kernel_rfl) (by kernel_rfl) (by kernel_rfl) (fun _ _ _ h => h) (Or.inl ⟨by rfl, ?_⟩) hHeld ?_
      rotate_left
      · (intro w hSw; go_simp; (try with_reducible rfl))
      simp only [Act.put, List.getElem_toArray, List.getElem_cons_zero, List.getElem_cons_succ, List.setIfInBounds_toArray, List.set_cons_zero, List.set_cons_succ]
      refine wpAnyH_take (i := 10) (v := ?_) rfl (by kernel_rfl) (by kernel_rfl) (by kernel_rfl) (fun _ _ _ h => h) (Or.inl ⟨by rfl, ?_⟩) hHeld ?_
      rotate_left
      · (intro w hSw; go_simp; (try with_reducible rfl))
      simp only [Act.put, List.getElem_toArray, List.getElem_cons_zero, List.getElem_cons_succ, List.setIfInBounds_toArray, List.set_cons_zero, List.set_cons_succ]
      refine wpAnyH_ready (rs := [11]) (by kernel_rfl) (by simp) ?_
      refine AllReadyH.cons rfl (fun K hK => ?_) AllReadyH.nil
      simp only [List.getElem_toArray, List.getElem_cons_zero, List.getElem_cons_succ]
      have q1 := hA7.cell hj
      have q2 := hA7.frozen (fN k)
      have HS := Lib.hid (hA7.set_ (fN k) y)
      have hB8 := hHeld.store (p := ⟨w.heap.size + 2, fN k, none⟩) (Nat.le_refl _) (by simp; omega) (.int .i64 y)
      go_simp
      refine hK.out _ _ hB8 (fun _ => ?_)
      clear hK K q1 q2 hHeld hA7 hwy
      refine wpAnyH_done (by kernel_rfl) ?_ _
      go_wp2_with fail
      go_roundw
      case rel => exact ⟨k + 1, by go_num, by omega, HS.out.congr (fun i _ => by rw [HE.out]; rfl), hbel.trans (hB8.2.2.2)⟩
      case measure => simp [intOf]; omega
    · obtain rfl : k = 9 := by omega
      have hT : wr.heap[1]? = some (.cells othersV.toArray u (0, 0)) := (hbel.block _ (by omega)).trans HO.out
      have HR1 := Lib.hid (HA1.out.below hbel (by omega))
      have HR2 := Lib.hid (HA2.out.below hbel (by omega))
      have hbw := hb3.trans (hbel.mono (by omega))
      have hsz := sizeO
      clear hbel
      go_upto_region 10 with (refine wpList_load_row rfl 33 _ rfl 1 rfl u othersV.toArray (0, 0) _ hT Tryd.underlying33 rfl hsz ?_)
      clear hT hsz
      obtain ⟨w4, hw4⟩ : ∃ w4 : World, w4 = wr := ⟨_, rfl⟩
      rw [← hw4] at HR1 HR2 HA hbw ⊢
      clear hw4 wr
      go_loopw [33] (fun i wr => ObRel2 w4 (w.heap.size + 2) (w.heap.size + 2) x r i wr) (fun i _ => 9 - (intOf i).toNat)
      case atStart => exact ⟨0, rfl, by omega, HA.out, Below.refl _ _⟩
      case round =>
        obtain ⟨k, rfl, hk, ha, hbel⟩ := hrel
        have HB := Lib.hid ha
        clear ha
        by_cases hlt : k < 9
        · have hj := olN_lt k hlt
          have hix := index_other k hlt
          have g1 := (HR1.out.below hbel (by omega)).cell hlt
          have g2 := HB.out.cell hj
          have g3 := HB.out.frozen (olN k)
          have HS := Lib.hid (HB.out.set_ (olN k) (r k))
          have b0 : (0 : Int) ≤ ((olN k : Nat) : Int) := by omega
          have b1 : ((olN k : Nat) : Int) < 18 := by omega
          go_wp2_with fail
          go_roundw
          case rel => exact ⟨k + 1, by go_num, by omega, HS.out, hbel.setCell (by simp) _⟩
          case measure => simp [intOf]; omega
        · obtain rfl : k = 9 := by omega
          have hL := HB.out.congr (objR_all x r)
          have hR := HR2.out.below hbel (by omega)
          have hsz : (Tryd.prog.info? 23).map (·.size) = some (arr .i64 18 (objF x r)).size := by rw [arr_size]; exact size18
          have h1c := arr_one .i64 18 (objF x r)
          have hbw' := hbw.trans (hbel.mono (by omega))
          go_wp2_with (first
            | (refine wpList_load_row rfl 23 (.tmp 6) rfl (w.heap.size + 2) rfl 23 _ (0, 0) _ hL Tryd.underlying23 rfl hsz ?_)
            | (refine wpList_store_row rfl 23 (.tmp 4) (.tmp 43) rfl (w.heap.size + 1) _ rfl rfl 23 (arr .i64 18 (fun _ => 0)) hR hsz (by rw [arr_size, arr_size]) h1c ?_))
          refine bodyPost_ret (v := .tuple #[.agg (arr .i64 18 (objF x r)), .nilIface]) ?_ rfl ⟨.inl ⟨hx, rfl⟩, below_setRow hbw' _ _ (by omega)⟩
          exact results_cell_tmp (ty := 23) (p := 4) (q := 5) (by kernel_rfl) _ _ (w.heap.size + 1) 23 _ (0, 0) _ rfl (hR.setRow _) Tryd.underlying23 rfl hsz
theorem object_any {z : World} (TP : TabP z) (TO : TabO z) (x : Int) (r : Nat → Int) (w : World) (hx0 : 0 ≤ x) (hx1 : x < 4294967296) (hz : Below z.heap.size z w) :
    Calls Tryd.prog 13 #[.int .u32 x, .agg (arr .i64 9 r)] w (ROPost x r w .nilIface (.iface 54 (.int .i64 2))) := by
  by_cases h : x < 2097152
  · exact object_yes TP TO x r w hx0 h hz
  · exact object_form x r w (by omega) hx1
end Go.Proofs.YtbnmajajnjphpaaDoor
