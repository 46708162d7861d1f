/- Layer 12: what Do answers of no state. -/
import Derived.Test.YthedopnhhanknaaEvG3
namespace Go.Proofs.Ythedopnhhanknaa
open Go.RowKit Ex
set_option maxRecDepth 100000
set_option maxHeartbeats 0 in
theorem none_code (e : EvT) (w : World) : Calls Try.prog 16 #[.pointer none, evV e] w fun en w' => en = .returned (errV (if chkE e = 0 then 4 else chkE e)) ∧ Below w.heap.size w w' := by
  have hck := fun W => check_code e W
  obtain ⟨r, hr⟩ : ∃ r, r = chkE e := ⟨_, rfl⟩
  rw [← hr] at hck ⊢
  clear hr
  obtain ⟨q, hq⟩ : ∃ q, q = errV (if r = 0 then 4 else r) := ⟨_, rfl⟩
  rw [← hq]
  have HQ := Lib.hid hq
  clear hq
  go_enter Try.func16, Try.ntmps16
  go_upto_region 1 with fail
  obtain ⟨w1, hw1⟩ : ∃ w1, w1 = w.alloc (.cells (evC e) 31) := ⟨_, rfl⟩
  have hrow : EvB w1 w.heap.size e := by rw [hw1]; exact heap_alloc_new _ _
  have hb1 : Below w.heap.size w w1 := by rw [hw1]; exact (Below.refl _ _).alloc (Nat.le_refl _) _
  show Code.wp _ _ _ _ (w.alloc (.cells (evC e) 31))
  rw [← hw1]
  clear hw1
  have hsE := ev_size e
  obtain ⟨es, hes⟩ : ∃ es, es = evC e := ⟨_, rfl⟩
  rw [show evV e = .agg es by rw [hes]; rfl] at hck
  have hrow1 : w1.heap[w.heap.size]? = some (.cells es 31 (0, 0)) := by rw [hes]; exact hrow
  rw [← hes] at hsE
  clear hes
  go_wp2_with (refine wpList_load_row rfl 31 (.tmp 3) rfl w.heap.size rfl 31 _ (0, 0) _ hrow1 Try.underlying31 rfl hsE ?_)
  refine (hck _).mono ?_
  rintro en w2 ⟨rfl, hb2⟩
  clear hck hrow1
  have hbw2 := keepB hb2 hb1
  by_cases hr0 : r = 0
  · subst hr0
    rw [errV_nil]
    go_wp2_with fail
    go_ret
    exact ⟨by rw [HQ.out, if_pos trivial]; rfl, hbw2⟩
  · have HR0 := Lib.hid hr0
    rw [errV_err hr0]
    clear hr0
    go_wp2_with fail
    go_ret
    exact ⟨by rw [HQ.out, if_neg HR0.out, errV_err HR0.out]; rfl, hbw2⟩
theorem evNone (z : World) : EvNone z := fun e w _ _ => none_code e w
end Go.Proofs.Ythedopnhhanknaa
