/- Layer 15: the document's small answers: Knows, bit, Zone, More, Gains. -/
import Derived.Test.YtmhabodijmnldaaDoorKwMath
import Derived.Test.YtmhabodijmnldaaDoorEvInv
import Derived.Test.YtmhabodijmnldaaDoorStBase
namespace Go.Proofs.YtmhabodijmnldaaDoor
open Go.RowKit Ex
set_option maxRecDepth 100000
set_option linter.unusedSimpArgs false in
set_option maxHeartbeats 0 in
theorem knowsRef_any (o : Nat → Int) (p : Int) (w : World) : Calls Tryd.prog 29 #[.agg (arr .i64 18 o), .int .i64 p] w fun en w' => en = .returned (.bool (bitK (o 17) p)) ∧ Below w.heap.size w w' := by
  obtain ⟨u, hu, hu2, h0, h1⟩ := wrap_bits (o 17)
  have hb : Below w.heap.size w (w.alloc (.cells (arr .i64 18 o) 49)) := (Below.refl _ _).alloc (Nat.le_refl _) _
  have ha : ArrAt .i64 18 49 (w.alloc (.cells (arr .i64 18 o) 49)) w.heap.size o := ArrAt.new _ _ _ _ _
  have c17 := ha.cell (show 17 < 18 by omega)
  clear ha
  have HB := Lib.hid hb
  by_cases k0 : p = 0
  · subst k0
    rw [bit0]
    by_cases h : (o 17) % 2 = 1
    · have e1 : ((u : Int).tmod 2) = 1 := by rw [Int.tmod_eq_emod_of_nonneg (by omega)]; omega
      rw [decide_eq_true h]
      clear h h0 h1 hu2 hb
      go_enter Tryd.func29, Tryd.ntmps29
      go_wp2_with fail
      go_ret
      exact ⟨rfl, HB.out⟩
    · have e1 : ((u : Int).tmod 2) = 0 := by rw [Int.tmod_eq_emod_of_nonneg (by omega)]; omega
      rw [decide_eq_false h]
      clear h h0 h1 hu2 hb
      go_enter Tryd.func29, Tryd.ntmps29
      go_wp2_with fail
      go_ret
      exact ⟨rfl, HB.out⟩
  by_cases k1 : p = 1
  · subst k1
    rw [bit1]
    by_cases h : (o 17) / 2 % 2 = 1
    · obtain ⟨v, hv⟩ : ∃ v : Nat, (v : Int) = (u : Int) / 2 := ⟨u / 2, by omega⟩
      have e0 : IntKind.u64.wrap ((u : Int) / 2) = (v : Int) := by rw [← hv]; exact u64_small (by omega) (by omega)
      have e1 : ((v : Int).tmod 2) = 1 := by rw [Int.tmod_eq_emod_of_nonneg (by omega)]; omega
      rw [decide_eq_true h]
      clear h h0 h1 hu2 hb k0 hv
      go_enter Tryd.func29, Tryd.ntmps29
      go_wp2_with fail
      go_ret
      exact ⟨rfl, HB.out⟩
    · obtain ⟨v, hv⟩ : ∃ v : Nat, (v : Int) = (u : Int) / 2 := ⟨u / 2, by omega⟩
      have e0 : IntKind.u64.wrap ((u : Int) / 2) = (v : Int) := by rw [← hv]; exact u64_small (by omega) (by omega)
      have e1 : ((v : Int).tmod 2) = 0 := by rw [Int.tmod_eq_emod_of_nonneg (by omega)]; omega
      rw [decide_eq_false h]
      clear h h0 h1 hu2 hb k0 hv
      go_enter Tryd.func29, Tryd.ntmps29
      go_wp2_with fail
      go_ret
      exact ⟨rfl, HB.out⟩
  · rw [bitN k0 k1]
    have d0 : (p == 0) = false := by simp [k0]
    have d1 : (p == 1) = false := by simp [k1]
    clear h0 h1 hu2 hb k0 k1
    go_enter Tryd.func29, Tryd.ntmps29
    go_wp2_with fail
    go_ret
    exact ⟨rfl, HB.out⟩
theorem build_ob0 (W : World) : (Instr.build 49 #[]).run Tryd.prog W = .ok (.agg (arr .i64 18 fun _ => 0)) W := by kernel_rfl
theorem wpList_ob0 {ops : Array Oper} {rest : List Oper} {o : Oper} {a : Act} {w : World} {Q : Exit → Act → World → Prop} (hg : o.guard = none) (ho : o.op = .build 49 #[])
    (hK : wpList Tryd.prog ops Q rest (a.put o.dst (.agg (arr .i64 18 fun _ => 0))) w) : wpList Tryd.prog ops Q (o :: rest) a w := by
  refine wpList_plain hg fun K' hK' => ?_
  unfold Oper.wp
  simp [execOp, ho, build_ob0, Result.andThen]
  exact hK' _ _ hK
theorem ObAt.range {w : World} {g : Nat} {f : Nat → Int} (h : ObAt w g f) : w.rangeAt g 0 (arr .i64 18 f).toList := fun j v hv => by
  rw [Nat.zero_add, cell_of_row w g j _ _ _ h, ← Array.getElem?_toList]; exact hv
end Go.Proofs.YtmhabodijmnldaaDoor
