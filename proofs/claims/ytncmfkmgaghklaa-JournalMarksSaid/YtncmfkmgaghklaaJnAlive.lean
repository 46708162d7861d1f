/- Layer 14: the laws' fixed fact. -/
import Derived.Test.YtncmfkmgaghklaaJnLw
import Derived.Test.YtncmfkmgaghklaaEvLe
namespace Go.Proofs.Ytncmfkmgaghklaa
open Go.RowKit Ex
set_option maxRecDepth 100000
/-- The fact's events. -/
def jA : EvT := ⟨0, 0, 0, 0, 0, 0⟩
def jB : EvT := ⟨0, 1, 0, 0, 0, 0⟩
def jC : EvT := ⟨5, 1, 0, 0, 0, 0⟩
def jD : EvT := ⟨5, 0, 0, 0, 0, 0⟩
def js1 : JT := ⟨[], [(1, 0)], 1⟩
def js2 : JT := ⟨[jA, jB], [(1, 0)], 1⟩
def js3 : JT := ⟨[jA, jB], [(1, 0), (2, 2)], 2⟩
def js4 : JT := ⟨[], [(1, 0)], 2⟩
theorem js_mark : markJ j0 = js1 := rfl
theorem js_add : addE js1 [jA, jB] = 0 ∧ addJ js1 [jA, jB] = js2 := by
  have h : addE js1 [jA, jB] = 0 := by decide
  exact ⟨h, by unfold addJ; rw [if_pos h]; rfl⟩
theorem js_mark2 : markJ js2 = js3 := rfl
theorem js_back : deadJ js3 1 = 0 ∧ invL (spanJ js3 1) = [jC, jD] ∧ backJ js3 1 = js4 := ⟨by decide, rfl, rfl⟩
theorem js_live : liveJ js4 2 = false ∧ liveJ js4 1 = true := ⟨by decide, by decide⟩
theorem jA_i : EvI jA := ⟨by decide, by decide, by decide, by decide, by decide, by decide⟩
theorem jB_i : EvI jB := ⟨by decide, by decide, by decide, by decide, by decide, by decide⟩
theorem rdV_flat' {w : World} {g : Nat} {l : List EvT} (h : w.heap[g]? = some (.cells (flatV l).toArray 41 (0, 0))) : RdV w.heap.size w (some ⟨g, 0, none⟩) l := fun i o hi =>
  ⟨g, 0, rfl, (Array.getElem?_eq_some_iff.1 h).1, fun j v hv => by
    rw [cell_of_row w g _ _ _ _ h, List.getElem?_toArray, Nat.zero_add]
    exact flatV_at i o hi j v hv⟩
theorem load_evG' {ops : Array Oper} {rest : List Oper} {a : Act} {w : World} {Q : Exit → Act → World → Prop} {op : Oper} (hw : Region.wanted op (yielded ops a.tmps) = true) (x : Operand) (ho : op.op = .load 41 x)
    (b off : Nat) (hx : a.eval x = .pointer (some ⟨b, off, none⟩)) (es : Array Value) (hs : es.size = 6) (h : w.rangeAt b off es.toList)
    (hK : wpList Try.prog ops Q rest (a.put op.dst (.agg es)) w) : wpList Try.prog ops Q (op :: rest) a w := by
  refine BigFrame.wpList_want hw fun _ hK' => wp_load_mid 41 x ho b off hx es.toList _ h Try.underlying41 rfl (by rw [Array.length_toList, hs]; exact ev_size ev0) (hK' _ _ ?_)
  rw [Array.toArray_toList]
  exact hK
set_option linter.unusedSimpArgs false in
set_option maxHeartbeats 0 in
theorem jnAlive {T : JRep} {z : World} (E : JnSaid T z) (w : World) (hz : Below z.heap.size z w) : Calls Try.prog 7 #[] w fun e w' => e = .returned (.bool true) ∧ Below w.heap.size w w' := by
  go_enter Try.func7, Try.ntmps7
  go_wp2_with fail
  refine (E.new w hz).mono ?_
  rintro en w1 ⟨p, F1, rfl, hR1, hF1, hb1⟩
  have HJ1 := Lib.hid (JI.new (Below.refl w.heap.size w) hR1 hF1 hb1)
  clear hR1 hF1 hb1
  have hm := E.mark p j0 F1 w1 HJ1.out.r HJ1.out.ok (by decide) (HJ1.out.lowz hz) (HJ1.out.zb hz)
  rw [js_mark] at hm
  unfold ptrV at hm ⊢
  go_wp2_with fail
  refine hm.mono ?_
  rintro en w2 ⟨rfl, hp2⟩
  obtain ⟨F2, hJ2⟩ := HJ1.out.step hp2 (by rw [← js_mark]; exact mark_ok j0_ok)
  have HJ2 := Lib.hid hJ2
  rw [show j0.last + 1 = 1 from rfl]
  clear hm hp2 hJ2 HJ1
  have hb3 : Below w2.heap.size w2 (w2.alloc (.cells (flatV [jA, jB]).toArray 41)) := (Below.refl _ _).alloc (Nat.le_refl _) _
  have HJ3 := Lib.hid (HJ2.out.keep hb3)
  have hV : Evs (w2.alloc (.cells (flatV [jA, jB]).toArray 41)).heap.size (w2.alloc (.cells (flatV [jA, jB]).toArray 41)) (some ⟨w2.heap.size, 0, none⟩) 2 [jA, jB] :=
    ⟨rfl, rdV_flat' (heap_alloc_new _ _), fun e he => by
      rcases List.mem_cons.1 he with rfl | he
      · exact jA_i
      obtain rfl : e = jB := by simpa using he
      exact jB_i⟩
  have ha := E.add p js1 F2 _ 2 2 [jA, jB] _ HJ3.out.r HJ3.out.ok hV (Nat.le_refl _) (by unfold maxLen; omega) (HJ3.out.lowz hz) (HJ3.out.zb hz)
  rw [js_add.1, js_add.2, errV_nil] at ha
  unfold ptrV at ha
  go_wp2_with fail
  refine ha.mono ?_
  rintro en w4 ⟨rfl, hp4⟩
  obtain ⟨F4, hJ4⟩ := HJ3.out.step hp4 (by rw [← js_add.2]; exact add_ok HJ3.out.ok)
  have HJ4 := Lib.hid hJ4
  clear ha hp4 hJ4 HJ3 HJ2 hV hb3
  have hm := E.mark p js2 F4 w4 HJ4.out.r HJ4.out.ok (by decide) (HJ4.out.lowz hz) (HJ4.out.zb hz)
  rw [js_mark2] at hm
  unfold ptrV at hm
  go_wp2_with fail
  refine hm.mono ?_
  rintro en w5 ⟨rfl, hp5⟩
  obtain ⟨F5, hJ5⟩ := HJ4.out.step hp5 (by rw [← js_mark2]; exact mark_ok HJ4.out.ok)
  have HJ5 := Lib.hid hJ5
  rw [show js2.last + 1 = 2 from rfl]
  clear hm hp5 hJ5 HJ4
  have hk := E.back p js3 F5 1 w5 HJ5.out.r HJ5.out.ok (by decide) (HJ5.out.lowz hz) (HJ5.out.zb hz)
  rw [js_back.1, js_back.2.1, js_back.2.2, errV_nil] at hk
  unfold ptrV at hk
  go_wp2_with fail
  refine hk.mono ?_
  rintro en w6 ⟨⟨A6, n6, c6, rfl, hc6, hV6⟩, hp6⟩
  obtain ⟨F6, hJ6⟩ := HJ5.out.step hp6 (by rw [← js_back.2.2]; exact back_ok HJ5.out.ok)
  have HJ6 := Lib.hid hJ6
  obtain rfl : n6 = 2 := hV6.n
  obtain ⟨b, off, rfl, _, hra⟩ := hV6.r 0 jC rfl
  have hra : w6.rangeAt b off #[Value.int .i64 5, .int .i64 1, .int .i64 0, .int .i64 0, .int .i64 0, .int .i64 0].toList := by
    rw [Nat.zero_mul, Nat.add_zero] at hra
    exact hra
  clear hk hp6 hJ6 HJ5 hV6 hc6
  have hl2 := E.live p js4 F6 2 w6 HJ6.out.r HJ6.out.ok (by decide) (HJ6.out.zb hz)
  rw [js_live.1] at hl2
  unfold ptrV at hl2
  go_wp2_with (refine load_evG' (by rfl) (.tmp 35) rfl b off rfl _ rfl hra ?_)
  refine hl2.mono ?_
  rintro en w7 ⟨rfl, hb7⟩
  have HJ7 := Lib.hid (HJ6.out.keep hb7)
  clear hl2 hb7 HJ6 hra
  have hl1 := E.live p js4 F6 1 w7 HJ7.out.r HJ7.out.ok (by decide) (HJ7.out.zb hz)
  rw [js_live.2] at hl1
  unfold ptrV at hl1
  go_wp2_with fail
  refine hl1.mono ?_
  rintro en w8 ⟨rfl, hb8⟩
  have HJ8 := Lib.hid (HJ7.out.keep hb8)
  clear hl1 hb8 HJ7
  have hm := E.mark p js4 F6 w8 HJ8.out.r HJ8.out.ok (by decide) (HJ8.out.lowz hz) (HJ8.out.zb hz)
  unfold ptrV at hm
  go_wp2_with fail
  refine hm.mono ?_
  rintro en w9 ⟨rfl, hp9⟩
  obtain ⟨F9, hJ9⟩ := HJ8.out.step hp9 (mark_ok HJ8.out.ok)
  have hb9 := hJ9.b
  rw [show js4.last + 1 = 3 from rfl]
  clear hm hp9 hJ9 HJ8
  go_wp2_with fail
  go_ret
  exact ⟨rfl, hb9⟩
end Go.Proofs.Ytncmfkmgaghklaa
