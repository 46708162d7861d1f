/- Layer 3: the landed code's Rest. -/
import Derived.Test.YtbnmajajnjphpaaDoorPackB
namespace Go.Proofs.YtbnmajajnjphpaaDoor
open Go.RowKit Px Bx
attribute [local go_sem] arr_get
def othersV : List Value := [.int .i64 0, .int .i64 6, .int .i64 7, .int .i64 8, .int .i64 9, .int .i64 12, .int .i64 14, .int .i64 15, .int .i64 16]
/-- The table of the other fields stands there. -/
def TabO (z : World) : Prop := ∃ t, z.heap[1]? = some (.cells othersV.toArray t (0, 0))
theorem TabO.keep {z w : World} (h : TabO z) (hb : Below z.heap.size z w) : TabO w := by
  obtain ⟨t, ht⟩ := h
  exact ⟨t, (hb.block _ (Array.getElem?_eq_some_iff.1 ht).1).trans ht⟩
theorem sizeO : (Tryd.prog.info? 33).map (·.size) = some othersV.toArray.size := by kernel_rfl
theorem index_other : ∀ k, k < 9 → ∀ w, (Instr.index 33 (.agg othersV.toArray) (.int .i64 ((k : Nat) : Int))).run Tryd.prog w = .ok (.int .i64 (olN k : Nat)) w :=
  all9 (fun _ => by kernel_rfl) (fun _ => by kernel_rfl) (fun _ => by kernel_rfl) (fun _ => by kernel_rfl) (fun _ => by kernel_rfl) (fun _ => by kernel_rfl) (fun _ => by kernel_rfl) (fun _ => by kernel_rfl) (fun _ => by kernel_rfl)
/-- The first k fields of the rest are laid. -/
def restK (o : Nat → Int) (k i : Nat) : Int := if i < k then o (olN i) else 0
theorem restK_next (o : Nat → Int) (k : Nat) : ∀ i, i < 9 → updI (restK o k) k (o (olN k)) i = restK o (k + 1) i := by
  intro i _
  unfold updI restK
  by_cases e : i = k
  · subst e; simp
  · by_cases h : i < k
    · rw [if_neg e, if_pos h, if_pos (by omega)]
    · rw [if_neg e, if_neg h, if_neg (by omega)]
theorem restK_all (o : Nat → Int) : ∀ i, i < 9 → restK o 9 i = restF o i :=
  all9 rfl rfl rfl rfl rfl rfl rfl rfl rfl
def ReRel (w3 : World) (H g : Nat) (o : Nat → Int) (i : Value) (wr : World) : Prop :=
  ∃ k : Nat, i = .int .i64 ((k : Nat) : Int) ∧ k ≤ 9 ∧ ArrAt .i64 9 33 wr g (restK o k) ∧ Below H w3 wr
set_option maxRecDepth 100000 in
set_option maxHeartbeats 1000000 in
theorem rest_any {z : World} (T : TabO z) (o : Nat → Int) (w : World) (hz : Below z.heap.size z w) :
    Calls Tryd.prog 11 #[.agg (arr .i64 18 o)] w fun e w' => e = .returned (.agg (arr .i64 9 (restF o))) ∧ Below w.heap.size w w' := by
  obtain ⟨t, ht⟩ := T.keep hz
  go_enter Tryd.func11, Tryd.ntmps11
  go_upto_region 2 with fail
  rw [zero9]
  obtain ⟨w3, hw3⟩ : ∃ w3, w3 = ((w.alloc (.cells (arr .i64 18 o) 23)).alloc (.cells (arr .i64 9 (fun _ => 0)) 33)).alloc (.cells (arr .i64 9 (fun _ => 0)) 33) := ⟨_, rfl⟩
  have ha1 : ArrAt .i64 18 23 w3 w.heap.size o := by rw [hw3]; exact ((ArrAt.new w _ _ _ _).alloc _).alloc _
  have ha2 : ArrAt .i64 9 33 w3 (w.heap.size + 1) (fun _ => 0) := by
    have h := (ArrAt.new (w.alloc (.cells (arr .i64 18 o) 23)) .i64 9 33 (fun _ => 0)).alloc (.cells (arr .i64 9 (fun _ => 0)) 33)
    rw [hw3]; simpa using h
  have ha3 : ArrAt .i64 9 33 w3 (w.heap.size + 2) (fun _ => 0) := by
    have h := ArrAt.new ((w.alloc (.cells (arr .i64 18 o) 23)).alloc (.cells (arr .i64 9 (fun _ => 0)) 33)) .i64 9 33 (fun _ => 0)
    rw [hw3]; simpa using h
  have hb3 : Below w.heap.size w w3 := by rw [hw3]; exact (((Below.refl _ _).alloc (Nat.le_refl _) _).alloc (by simp) _).alloc (by simp; omega) _
  rw [← hw3]
  have hT : w3.heap[1]? = some (.cells othersV.toArray t (0, 0)) := (hb3.block _ (Array.getElem?_eq_some_iff.1 ht).1).trans ht
  clear hw3 ht
  have HA1 := Lib.hid ha1
  have HA2 := Lib.hid ha2
  have HA3 := Lib.hid ha3
  clear ha1 ha2 ha3
  have hsz := sizeO
  go_upto_region 3 with (refine wpList_load_row rfl 33 _ rfl 1 rfl t othersV.toArray (0, 0) _ hT Tryd.underlying33 rfl hsz ?_)
  clear hT hsz
  go_loopw [7] (fun i wr => ReRel w3 (w.heap.size + 2) (w.heap.size + 2) o i wr) (fun i _ => 9 - (intOf i).toNat)
  case atStart => exact ⟨0, rfl, by omega, HA3.out.congr (by intro i _; simp [restK]), Below.refl _ _⟩
  case round =>
    obtain ⟨k, rfl, hk, ha, hbel⟩ := hrel
    have HA := Lib.hid ha
    clear ha
    by_cases hlt : k < 9
    · have hj := olN_lt k hlt
      have hix := index_other k hlt
      have g1 := (HA1.out.below hbel (by omega)).cell hj
      have g2 := HA.out.cell hlt
      have g3 := HA.out.frozen k
      have HS := Lib.hid ((HA.out.set_ k (o (olN k))).congr (restK_next o k))
      have b0 : (0 : Int) ≤ ((olN k : Nat) : Int) := by omega
      have b1 : ((olN k : Nat) : Int) < 18 := by omega
      go_wp2_with fail
      go_roundw
      case rel => exact ⟨k + 1, by go_num, by omega, HS.out, hbel.setCell (by simp) _⟩
      case measure => simp [intOf]; omega
    · obtain rfl : k = 9 := by omega
      have hL := HA.out.congr (restK_all o)
      have hR := (HA2.out.below hbel (by omega))
      have hsz : (Tryd.prog.info? 33).map (·.size) = some (arr .i64 9 (restF o)).size := by rw [arr_size]; exact size9
      have h1c := arr_one .i64 9 (restF o)
      have hbw := hb3.trans (hbel.mono (by omega))
      go_wp2_with (first
        | (refine wpList_load_row rfl 33 (.tmp 3) rfl (w.heap.size + 2) rfl 33 _ (0, 0) _ hL Tryd.underlying33 rfl hsz ?_)
        | (refine wpList_store_row rfl 33 (.tmp 2) (.tmp 17) rfl (w.heap.size + 1) _ rfl rfl 33 (arr .i64 9 (fun _ => 0)) hR hsz (by rw [arr_size, arr_size]) h1c ?_))
      exact bodyPost_ret (v := .agg (arr .i64 9 (restF o)))
        (results_cell_row (ty := 33) (p := 2) (by kernel_rfl) _ _ (w.heap.size + 1) 33 _ (0, 0) _ rfl (hR.setRow _) Tryd.underlying33 rfl hsz)
        rfl ⟨rfl, below_setRow hbw _ _ (by omega)⟩
end Go.Proofs.YtbnmajajnjphpaaDoor
