/- Layer 13: the library's DeleteFunc and IndexFunc over a list of events of the call's own. -/
import Derived.Test.YtmneajmedopheaaNtKey
import Derived.Test.YtmneajmedopheaaNtEv2
import Derived.Test.YtmneajmedopheaaNtG3
import Derived.Test.YtmneajmedopheaaNtC4
import Derived.Laws.IdiomCopy
import Derived.Deep.MidRow
namespace Go.Proofs.Ytmneajmedopheaa
open Go.RowKit Ex
set_option maxRecDepth 100000
/-- Cells written one behind the other: the block stands, what lies ahead of them is as it was. -/
theorem setCells_block (g : Nat) (t : TypeId) : ∀ (vs : List Value) (o : Nat) (W : World) (cur : Array Value), W.heap[g]? = some (.cells cur t (0, 0)) →
    ∃ cur', (W.setCells g o vs).heap[g]? = some (.cells cur' t (0, 0)) ∧ cur'.size = cur.size ∧ (∀ p, p < o → cur'[p]? = cur[p]?) ∧ (∀ k, k ≠ g → (W.setCells g o vs).heap[k]? = W.heap[k]?) ∧ (W.setCells g o vs).heap.size = W.heap.size ∧
      (W.setCells g o vs).os = W.os ∧ (W.setCells g o vs).tape = W.tape ∧ (W.setCells g o vs).output = W.output
  | [], o, W, cur, h => ⟨cur, h, rfl, fun _ _ => rfl, fun _ _ => rfl, rfl, rfl, rfl, rfl⟩
  | v :: r, o, W, cur, h => by
    obtain ⟨cur', h1, h2, h3, h4, h5, h6, h7, h8⟩ := setCells_block g t r (o + 1) (W.setCell ⟨g, o, none⟩ v) (cur.setIfInBounds o v) (heap_setCell_same W g o cur _ v h)
    refine ⟨cur', h1, by rw [h2, Array.size_setIfInBounds], fun p hp => ?_, fun k hk => ?_, ?_, h6, h7, h8⟩
    · rw [h3 p (by omega), Array.getElem?_setIfInBounds_ne (by omega)]
    · exact (h4 k hk).trans (heap_setCell_other W ⟨g, o, none⟩ k v hk)
    · rw [show W.setCells g o (v :: r) = (W.setCell ⟨g, o, none⟩ v).setCells g (o + 1) r from rfl, h5]; simp
section
variable {W w : World} {base n c g : Nat} {l : List EvT}
/-- One event written over. -/
theorem OwnV.setE (h : OwnV W base (some ⟨g, 0, none⟩) n c l) {i : Nat} (hi : i < l.length) (e : EvT) : OwnV (W.setCells g (i * 6) (evC e).toList) base (some ⟨g, 0, none⟩) n c (l.set i e) := by
  have step : ∀ {W' : World} {x y : EvT} {j : Nat} {v : Value}, OwnV W' base (some ⟨g, 0, none⟩) n c (l.set i x) → j < 6 → (evC x).setIfInBounds j v = evC y → OwnV (W'.setCell ⟨g, i * 6 + j, none⟩ v) base (some ⟨g, 0, none⟩) n c (l.set i y) := by
    intro W' x y j v hx hj hv
    obtain ⟨g2, hg2, _, _, _, _, hs⟩ := hx.set_ (i := i) (j := j) (by simpa using hi) hj
    obtain rfl : g = g2 := by injection hg2 with hg2; injection hg2
    have := hs v y (by rw [List.getElem_set_self]; exact hv)
    rwa [List.set_set] at this
  have h0 : OwnV W base (some ⟨g, 0, none⟩) n c (l.set i l[i]) := by rw [List.set_getElem_self]; exact h
  obtain ⟨x, hx⟩ : ∃ x, x = l[i] := ⟨_, rfl⟩
  rw [← hx] at h0
  obtain ⟨k0, a0, b0, c0, d0, e0⟩ := x
  obtain ⟨k, a, b, c', d, f⟩ := e
  have h1 := step (y := ⟨k, a0, b0, c0, d0, e0⟩) (v := .int .i64 k) (j := 0) h0 (by omega) rfl
  have h2 := step (y := ⟨k, a, b0, c0, d0, e0⟩) (v := .int .i64 a) (j := 1) h1 (by omega) rfl
  have h3 := step (y := ⟨k, a, b, c0, d0, e0⟩) (v := .int .i64 b) (j := 2) h2 (by omega) rfl
  have h4 := step (y := ⟨k, a, b, c', d0, e0⟩) (v := .int .i64 c') (j := 3) h3 (by omega) rfl
  have h5 := step (y := ⟨k, a, b, c', d, e0⟩) (v := .int .i64 d) (j := 4) h4 (by omega) rfl
  have h6 := step (y := ⟨k, a, b, c', d, f⟩) (v := .int .i64 f) (j := 5) h5 (by omega) rfl
  exact h6
theorem OwnV.block_ (h : OwnV W base (some ⟨g, 0, none⟩) n c l) : ∃ cur, W.heap[g]? = some (.cells cur 45 (0, 0)) ∧ base ≤ g ∧ n ≤ c ∧ c ≤ maxLen ∧ cur.size = c * 6 ∧ cur.toList.take (n * 6) = flatV l := by
  rcases h.o.2 with ⟨hv, _⟩ | ⟨g', cap, cur, hv, hb, hg, hc, hm, hs, ht⟩
  · cases hv
  · injection hv with h1 _ h3
    injection h1 with h1
    injection h1 with h1
    subst h1 h3
    exact ⟨cur, hg, hb, hc, hm, hs, ht⟩
theorem OwnV.there (h : OwnV W base (some ⟨g, 0, none⟩) n c l) {i m : Nat} (hi : i * 6 + m ≤ n * 6) : W.there g (i * 6) m := fun j hj => by
  obtain ⟨cur, hg, _, hc, _, hs, _⟩ := h.block_
  refine ⟨?_, frozen_of_row W g (i * 6 + j) cur _ hg⟩
  rw [cell_of_row W g (i * 6 + j) cur _ _ hg, Array.getElem?_eq_getElem (by rw [hs]; omega)]; rfl
/-- The first ones alone, whatever is written behind them. -/
theorem OwnV.cutTo (h : OwnV W base (some ⟨g, 0, none⟩) n c l) {i : Nat} (hi : i ≤ n) (vs : List Value) : OwnV (W.setCells g (i * 6) vs) base (some ⟨g, 0, none⟩) i c (l.take i) := by
  obtain ⟨cur, hg, hb, hc, hm, hs, ht⟩ := h.block_
  obtain ⟨cur', hg', hs', hp', _⟩ := setCells_block g _ vs (i * 6) W cur hg
  have hl := h.len
  have hlen : (l.take i).length = i := by rw [List.length_take]; omega
  refine ⟨hlen.symm, by rw [flatV_len, hlen], .inr ⟨g, c, cur', rfl, hb, hg', by omega, hm, by rw [hs', hs], ?_⟩⟩
  have e1 : flatV (l.take i) = (flatV l).take (i * 6) := by
    have : flatV l = flatV (l.take i) ++ flatV (l.drop i) := by rw [← flatV_app, List.take_append_drop]
    rw [this]
    exact (List.take_left' (by rw [flatV_len, hlen])).symm
  rw [e1, ← ht, List.take_take, show min (i * 6) (n * 6) = i * 6 by omega]
  refine List.ext_getElem? fun p => ?_
  by_cases hpl : p < i * 6
  · rw [List.getElem?_take_of_lt hpl, List.getElem?_take_of_lt hpl, Array.getElem?_toList, Array.getElem?_toList, hp' p hpl]
  · rw [List.getElem?_eq_none (by rw [List.length_take]; omega), List.getElem?_eq_none (by rw [List.length_take]; omega)]
end
/-- Whether what an event sets is what there was. -/
def cdB (e : EvT) : Bool := e.c == e.d
theorem fin_filter (f : List EvT) : finE f = f.filter fun e => !cdB e := by
  unfold finE cdB
  congr 1; funext e
  by_cases h : e.c = e.d <;> simp [h]
/-- What DeleteFunc's row holds: what was kept of the first j in the first i places, behind j what was there. -/
structure KeptV (f dk : List EvT) (i j : Nat) : Prop where
  len : dk.length = f.length
  lo : dk.take i = finE (f.take j)
  hi : dk.drop j = f.drop j
  lt : i < j
  le : j ≤ f.length
theorem fin_take {f : List EvT} {j : Nat} {x : EvT} (h : f[j]? = some x) : finE (f.take (j + 1)) = finE (f.take j) ++ (if cdB x = true then [] else [x]) := by
  rw [take_snoc h, fin_filter, fin_filter, List.filter_append]
  congr 1
  cases hx : cdB x <;> simp [hx]
theorem KeptV.start {f : List EvT} {k : Nat} {x : EvT} (hx : f[k]? = some x) (hc : cdB x = true) (ha : ∀ (j : Nat) (y : EvT), j < k → f[j]? = some y → cdB y = false) : KeptV f f k (k + 1) := by
  have hk := (List.getElem?_eq_some_iff.1 hx).1
  refine ⟨rfl, ?_, rfl, by omega, by omega⟩
  rw [fin_take hx, if_pos hc, List.append_nil, fin_filter]
  symm
  rw [List.filter_eq_self]
  intro y hy
  obtain ⟨j, hj⟩ := List.mem_iff_getElem?.1 hy
  have hjl : j < k := by have := (List.getElem?_eq_some_iff.1 hj).1; rw [List.length_take] at this; omega
  rw [List.getElem?_take_of_lt hjl] at hj
  simp [ha j y hjl hj]
theorem KeptV.at_ {f dk : List EvT} {i j : Nat} (h : KeptV f dk i j) : dk[j]? = f[j]? := by
  have := congrArg (fun l : List EvT => l[0]?) h.hi
  simpa using this
theorem KeptV.skip {f dk : List EvT} {i j : Nat} {x : EvT} (h : KeptV f dk i j) (hx : f[j]? = some x) (hc : cdB x = true) : KeptV f dk i (j + 1) := by
  refine ⟨h.len, by rw [fin_take hx, if_pos hc, List.append_nil]; exact h.lo, ?_, by have := h.lt; omega, (List.getElem?_eq_some_iff.1 hx).1⟩
  rw [← List.drop_drop, ← List.drop_drop, h.hi]
theorem KeptV.keep {f dk : List EvT} {i j : Nat} {x : EvT} (h : KeptV f dk i j) (hx : f[j]? = some x) (hc : cdB x = false) : KeptV f (dk.set i x) (i + 1) (j + 1) := by
  have hj := (List.getElem?_eq_some_iff.1 hx).1
  have hl := h.lt
  have hn := h.len
  refine ⟨by rw [List.length_set]; exact hn, ?_, ?_, by omega, hj⟩
  · rw [fin_take hx, if_neg (by rw [hc]; simp), ← h.lo, take_snoc (x := x) (by rw [List.getElem?_set_self (by omega)]), List.take_set_of_le (Nat.le_refl _)]
  · rw [List.drop_set_of_lt (by omega), ← List.drop_drop, ← List.drop_drop, h.hi]
/-- A range of the row, while the row is written. -/
structure DF (w : World) (base g n c : Nat) (f dk : List EvT) (i j : Nat) (W : World) : Prop where
  o : OwnV W base (some ⟨g, 0, none⟩) n c dk
  g : w.grownBy W (some g)
  k : KeptV f dk i j
theorem grownBy_below {w W W' : World} {row : Option Nat} (h : w.grownBy W row) (hb : Below W.heap.size W W') : w.grownBy W' row :=
  ⟨hb.os.trans h.os, hb.tape.trans h.tape, hb.output.trans h.output, Nat.le_trans h.size hb.size, fun k hk hr => (hb.block k (Nat.lt_of_lt_of_le hk h.size)).trans (h.block k hk hr)⟩
theorem grownBy_cells {w W : World} {base g n c : Nat} {l : List EvT} (h : w.grownBy W (some g)) (ho : OwnV W base (some ⟨g, 0, none⟩) n c l) (o : Nat) (vs : List Value) : w.grownBy (W.setCells g o vs) (some g) := by
  obtain ⟨cur, hg, _⟩ := ho.block_
  obtain ⟨_, _, _, _, h4, h5, h6, h7, h8⟩ := setCells_block g _ vs o W cur hg
  exact ⟨h6.trans h.os, h7.trans h.tape, h8.trans h.output, by rw [h5]; exact h.size, fun k hk hr => (h4 k (fun e => hr (by rw [e]))).trans (h.block k hk hr)⟩
section
variable {w W W' : World} {base g n c i j : Nat} {f dk : List EvT}
theorem DF.keep (h : DF w base g n c f dk i j W) (hb : Below W.heap.size W W') : DF w base g n c f dk i j W' := ⟨h.o.below hb, grownBy_below h.g hb, h.k⟩
theorem DF.skip (h : DF w base g n c f dk i j W) {x : EvT} (hx : f[j]? = some x) (hc : cdB x = true) : DF w base g n c f dk i (j + 1) W := ⟨h.o, h.g, h.k.skip hx hc⟩
theorem DF.put (h : DF w base g n c f dk i j W) {x : EvT} (hx : f[j]? = some x) (hc : cdB x = false) : DF w base g n c f (dk.set i x) (i + 1) (j + 1) (W.setCells g (i * 6) (evC x).toList) :=
  ⟨h.o.setE (by have := h.k.lt; have := h.k.le; have := h.k.len; omega) x, grownBy_cells h.g h.o _ _, h.k.keep hx hc⟩
end
/-- clear of events of the call's own. -/
theorem run_clearV {W : World} {base g n c : Nat} {l : List EvT} (ty : TypeId) (h : OwnV W base (some ⟨g, 0, none⟩) n c l) {i c2 : Nat} (hi : i < n) :
    ∃ vs, (Builtin.clear_ #[30] ty #[.slice (some ⟨g, i * 6, none⟩) (n - i) c2]).run Try.prog W = .ok (.tuple #[]) (W.setCells g (i * 6) vs) := by
  obtain ⟨m, hm⟩ : ∃ m, n - i = m + 1 := ⟨n - i - 1, by omega⟩
  have hz : ∀ w, (zeroValue 45).run Try.prog w = .ok (evV ev0) w := by intro w; kernel_rfl
  refine ⟨(Builtin.zeroCells (evV ev0).cells (n - i)).toList, ?_⟩
  have hlen : (Builtin.zeroCells (evV ev0).cells (n - i)).toList.length = (n - i) * 6 := by simp [Builtin.zeroCells, evV, Value.cells]
  have hst := run_storeCells_cells (P := Try.prog) g (i * 6) (Builtin.zeroCells (evV ev0).cells (n - i)).toList 0 W
    (fun j hj => by rw [hlen] at hj; exact ((h.there (i := i) (m := (n - i) * 6) (by omega)) j hj).1)
    (fun j hj => by rw [hlen] at hj; exact ((h.there (i := i) (m := (n - i) * 6) (by omega)) j hj).2)
    (fun v hv => by
      simp only [Builtin.zeroCells, Array.toList_map, List.mem_map] at hv
      obtain ⟨p, _, rfl⟩ := hv
      have h6 : (evV ev0).cells.size = 6 := rfl
      have hp : p % (evV ev0).cells.size < (evV ev0).cells.size := Nat.mod_lt _ (by rw [h6]; omega)
      rw [getElem!_pos (evV ev0).cells _ hp]
      exact Array.all_eq_true'.1 (evC_one ev0) _ (Array.getElem_mem hp))
  simp only [Nat.add_zero] at hst
  rw [hm] at hst ⊢
  simp [Builtin.clear_, run_underlying Try.underlying30, hz, hst]
theorem wpList_clearV {ops : Array Oper} {rest : List Oper} {o : Oper} {a : Act} {w : World} {Q : Exit → Act → World → Prop} (hgd : o.guard = none) (s : Operand)
    (ho : o.op = .call { callee := .builtin .clear, args := #[s], argTypes := #[30] })
    {base g n c : Nat} {l : List EvT} (h : OwnV w base (some ⟨g, 0, none⟩) n c l) {i c2 : Nat} (hi : i < n) (hs : a.eval s = .slice (some ⟨g, i * 6, none⟩) (n - i) c2)
    (hK : ∀ vs, wpList Try.prog ops Q rest (a.put o.dst (.tuple #[])) (w.setCells g (i * 6) vs)) : wpList Try.prog ops Q (o :: rest) a w := by
  refine wpList_plain hgd fun K' hK' => ?_
  obtain ⟨vs, hrun⟩ := run_clearV o.type h hi (c2 := c2)
  unfold Oper.wp execOp
  simp only [ho, resolve, invoke, builtin, Sem.run_bind, Sem.run_pure, Result.andThen_ok, List.map_toArray, List.map_cons, List.map_nil, hs, hrun]
  exact hK' _ _ (hK vs)
theorem slice_fromV (W : World) {g n c i : Nat} (hi : i ≤ n) (hc : i < c) : (Instr.slice 30 (.slice (some ⟨g, 0, none⟩) n c) (some (.int .i64 (i : Int))) none none).run Try.prog W = .ok (.slice (some ⟨g, i * 6, none⟩) (n - i) (c - i)) W := by
  rw [run_slice_l W 30 _ n c ev_elem .i64 (i : Int) (by omega) (by omega), ev_elem_size]
  simp only [Result.andThen_ok, sliced, Int.toNat_natCast]
  rw [if_neg (by omega)]
  simp [Addr.add_mid]
theorem slice_toV (W : World) {g n c i : Nat} (hi : i ≤ c) : (Instr.slice 30 (.slice (some ⟨g, 0, none⟩) n c) none (some (.int .i64 (i : Int))) none).run Try.prog W = .ok (.slice (some ⟨g, 0, none⟩) i c) W := by
  rw [run_slice_h W 30 _ n c ev_elem .i64 (i : Int) (by omega) (by omega), ev_elem_size]
  simp only [Result.andThen_ok, sliced, Int.toNat_natCast, Nat.sub_zero]
  split
  · rfl
  · simp [Addr.add_mid]
set_option maxHeartbeats 0 in
theorem cd_code (e : EvT) (w : World) : Calls Try.prog 39 #[evV e] w fun en w' => en = .returned (.bool (cdB e)) ∧ Below w.heap.size w w' := by
  obtain ⟨r, hr⟩ : ∃ r, r = cdB e := ⟨_, rfl⟩
  rw [← hr]
  have hc : (e.c == e.d) = r := by rw [hr]; rfl
  clear hr
  go_enter Try.func39, Try.ntmps39
  go_upto_region 1 with fail
  obtain ⟨w1, hw1⟩ : ∃ w1, w1 = w.alloc (.cells (evC e) 45) := ⟨_, rfl⟩
  have hrow : EvB w1 w.heap.size e := by rw [hw1]; exact heap_alloc_new _ _
  have hb1 : Below w.heap.size w w1 := by rw [hw1]; exact (Below.refl _ _).alloc (Nat.le_refl _) _
  show Code.wp _ _ _ _ (w.alloc (.cells (evC e) 45))
  rw [← hw1]
  have c3 := hrow.cells.2.2.2.1
  have c4 := hrow.cells.2.2.2.2.1
  clear hw1 hrow
  go_wp2_with fail
  go_ret
  exact ⟨rfl, hb1⟩
/-- What IndexFunc answers. -/
def IdxV (f : List EvT) (i : Int) : Prop := (i = -1 ∧ finE f = f) ∨ ∃ (k : Nat) (x : EvT), i = (k : Int) ∧ f[k]? = some x ∧ cdB x = true ∧ ∀ (j : Nat) (y : EvT), j < k → f[j]? = some y → cdB y = false
set_option linter.unusedSimpArgs false in
set_option maxHeartbeats 0 in
theorem idxV_code (A : Option Addr) (n c : Nat) (f : List EvT) (w : World) (hr : RdV w.heap.size w A f) (hl : n = f.length) (hn : n ≤ 1000) :
    Calls Try.prog 52 #[.slice A n c, .func (.func 39) #[] #[]] w fun en w' => ∃ i, en = .returned (.int .i64 i) ∧ IdxV f i ∧ Below w.heap.size w w' := by
  have HR := Lib.hid hr
  have HL := Lib.hid hl
  clear hr hl
  go_enter Try.func52, Try.ntmps52
  go_upto_region 2 with fail
  have HB := Lib.hid (Below.refl w.heap.size w)
  have HA : Hid (∀ (j : Nat) (y : EvT), j < 0 → f[j]? = some y → cdB y = false) := Lib.hid (fun _ _ h => absurd h (by omega))
  go_loopw [8] (fun i wr => ∃ k : Nat, i = .int .i64 ((k : Nat) : Int) ∧ k ≤ n ∧ Hid (∀ (j : Nat) (y : EvT), j < k → f[j]? = some y → cdB y = false) ∧ Hid (Below w.heap.size w wr)) (fun i _ => n - (intOf i).toNat)
  case atStart => exact ⟨0, rfl, by omega, HA, HB⟩
  case round =>
    clear HA HB
    obtain ⟨k, rfl, hk, HA, HB⟩ := hrel
    by_cases hlt : k < n
    · have hlt' : k < f.length := by rw [← HL.out]; exact hlt
      obtain ⟨b1, o1, ea, hb1, g1⟩ := HR.out.at_ hlt'
      subst ea
      have G1 := Lib.hid (range_below HB.out hb1 g1)
      obtain ⟨x, hx⟩ : ∃ x, x = f[k] := ⟨_, rfl⟩
      rw [← hx] at G1
      have HX := Lib.hid (show f[k]? = some x by rw [hx]; exact List.getElem?_eq_getElem hlt')
      have p0 : (0 : Int) ≤ (k : Int) := by omega
      have p1 : (k : Int) < (n : Int) := by omega
      clear hx g1 hb1 hlt'
      go_wp2_with (refine load_evm rfl (.tmp 14) rfl b1 (o1 + k * 6) rfl x G1.out ?_)
      refine (cd_code x wr).mono ?_
      rintro en w2 ⟨rfl, hb2⟩
      have HB2 := Lib.hid (keepB hb2 HB.out)
      obtain ⟨q, hq⟩ : ∃ q, q = cdB x := ⟨_, rfl⟩
      rw [← hq]
      cases q with
      | true =>
        have HF := Lib.hid (show IdxV f (k : Int) from .inr ⟨k, x, rfl, HX.out, hq.symm, HA.out⟩)
        clear hq hb2
        go_wp2_with fail
        go_ret
        exact ⟨_, rfl, HF.out, HB2.out⟩
      | false =>
        have HA2 := Lib.hid (show ∀ (j : Nat) (y : EvT), j < k + 1 → f[j]? = some y → cdB y = false from fun j y hj hy => by
          by_cases e : j = k
          · subst e
            rw [HX.out] at hy; injection hy with hy; rw [← hy]; exact hq.symm
          · exact HA.out j y (by omega) hy)
        clear hq hb2
        go_wp2_with fail
        go_roundw
        case rel => exact ⟨k + 1, by go_num, by omega, HA2, HB2⟩
        case measure => simp [intOf]; omega
    · obtain rfl : k = n := by omega
      have HF := Lib.hid (show IdxV f (-1) from .inl ⟨rfl, by
        rw [fin_filter, List.filter_eq_self]
        intro y hy
        obtain ⟨j, hj⟩ := List.mem_iff_getElem?.1 hy
        have := (List.getElem?_eq_some_iff.1 hj).1
        simp [HA.out j y (by rw [HL.out]; exact this) hj]⟩)
      go_wp2_with fail
      go_ret
      exact ⟨_, rfl, HF.out, HB.out⟩
/-- What DeleteFunc answers. -/
def DelP (w : World) (base : Nat) (A : Option Addr) (n c : Nat) (f : List EvT) (en : Ending) (w' : World) : Prop := ∃ n', en = .returned (.slice A n' c) ∧ OwnV w' base A n' c (finE f) ∧ w.grownBy w' (Value.slice A n c).ownBlock
set_option linter.unusedSimpArgs false in
set_option maxHeartbeats 0 in
theorem delV_code (base : Nat) (A : Option Addr) (n c : Nat) (f : List EvT) (w : World) (ho : OwnV w base A n c f) (hn : n ≤ 1000) :
    Calls Try.prog 38 #[.slice A n c, .func (.func 39) #[] #[]] w (DelP w base A n c f) := by
  have H := Lib.hid ho
  have hix := idxV_code A n c f w ho.rd ho.len hn
  clear ho
  go_enter Try.func38, Try.ntmps38
  go_upto_region 1 with fail
  go_wp2_with fail
  refine hix.mono ?_
  clear hix
  rintro en w1 ⟨i0, rfl, hi, hb1⟩
  rcases hi with ⟨rfl, hf⟩ | ⟨k, x, rfl, hx, hc, ha⟩
  · have HF := Lib.hid (show OwnV w1 base A n c (finE f) ∧ w.grownBy w1 (Value.slice A n c).ownBlock from ⟨by rw [hf]; exact H.out.below hb1, gb_below hb1 _⟩)
    clear hf hb1
    go_wp2_with fail
    go_ret
    exact ⟨_, rfl, HF.out.1, HF.out.2⟩
  · have hkl := (List.getElem?_eq_some_iff.1 hx).1
    have hkn : k < n := by rw [H.out.len]; exact hkl
    have hgA : ∃ g, A = some ⟨g, 0, none⟩ := by
      obtain ⟨g, e, _⟩ := H.out.set_ (i := k) (j := 0) hkl (by omega)
      exact ⟨g, e⟩
    obtain ⟨g, rfl⟩ := hgA
    have HD := Lib.hid (show DF w base g n c f f k (k + 1) w1 from ⟨H.out.below hb1, gb_below hb1 _, KeptV.start hx hc ha⟩)
    have HK := Lib.hid (And.intro (Nat.le_trans H.out.cap.1 (Nat.le_refl c)) H.out.len)
    have d0 : ((k : Int) == -1) = false := beq_eq_false_iff_ne.2 (by omega)
    clear hx hc ha hb1 hkl
    go_upto_region 5 with fail
    clear d0
    go_loopw [5, 6] (fun a b wr => ∃ (i j : Nat) (dk : List EvT), a = .int .i64 ((i : Nat) : Int) ∧ b = .int .i64 ((j : Nat) : Int) ∧ i ≤ 1000 ∧ j ≤ n ∧ Hid (DF w base g n c f dk i j wr)) (fun _ b _ => n - (intOf b).toNat)
    case atStart => exact ⟨k, k + 1, f, rfl, by go_num, by omega, by omega, HD⟩
    case round =>
      clear HD hkn
      obtain ⟨i, j, dk, rfl, rfl, hi, hj, HD⟩ := hrel
      by_cases hlt : j < n
      · have hlt' : j < f.length := by rw [← HK.out.2]; exact hlt
        obtain ⟨x, hx⟩ : ∃ x, x = f[j] := ⟨_, rfl⟩
        have HX := Lib.hid (show f[j]? = some x by rw [hx]; exact List.getElem?_eq_getElem hlt')
        have hdk : dk[j]? = some x := HD.out.k.at_.trans HX.out
        obtain ⟨b1, o1, ea, hb1, g1⟩ := HD.out.o.rd _ _ hdk
        obtain ⟨rfl, rfl⟩ : g = b1 ∧ 0 = o1 := by injection ea with ea; injection ea with e1 e2; exact ⟨e1, e2⟩
        rw [Nat.zero_add] at g1
        have G1 := Lib.hid g1
        have p0 : (0 : Int) ≤ (j : Int) := by omega
        have p1 : (j : Int) < (n : Int) := by omega
        have p2 : (n : Int) ≤ 1000 := by omega
        have q0 : (0 : Int) ≤ (i : Int) := by omega
        have hij := HD.out.k.lt
        have q1 : (i : Int) < (n : Int) := by omega
        have q2 : (i : Int) ≤ 1000 := by omega
        clear hx hdk hb1 g1 ea hlt'
        have hsz := ev_size x
        have hone := evC_one x
        have hs6 : (evC ev0).size = (evC x).size := rfl
        have hz6 := ev0_is
        have hnew : (World.alloc wr (.cells (evC ev0) 45)).heap[(World.heap wr).size]? = some (.cells (evC ev0) 45 (0, 0)) := heap_alloc_new _ _
        obtain ⟨es, hes⟩ : ∃ es, es = evC x := ⟨_, rfl⟩
        have hev : evV x = .agg es := by rw [hes]; rfl
        have HEs := Lib.hid hes
        rw [← hes] at hsz hs6 hone
        clear hes
        go_upto_region 8 with (first
          | (refine load_evm rfl (.tmp 24) rfl g (j * 6) rfl x G1.out ?_; rw [hev])
          | (refine wpList_store_row rfl 45 (.tmp 7) (.tmp 25) rfl (World.heap wr).size _ rfl rfl 45 (evC ev0) hnew hsz hs6 hone ?_))
        rw [HEs.out]
        clear hnew hsz hs6 hone hz6 hev HEs es
        obtain ⟨w4, hw4, he4, hb4⟩ := ev_box wr x
        rw [← hw4]
        obtain ⟨ge, hge⟩ : ∃ g, g = (World.heap wr).size := ⟨_, rfl⟩
        rw [← hge] at he4
        rw [← hge]
        have HGge := Lib.hid hge
        clear hw4 hge
        have HD4 := Lib.hid (HD.out.keep hb4)
        clear HD hb4 G1
        go_wp2_with (refine load_ev (by rfl) (.tmp 7) rfl ge rfl x he4 ?_)
        refine (cd_code x w4).mono ?_
        rintro en w5 ⟨rfl, hb5⟩
        have HD5 := Lib.hid (HD4.out.keep hb5)
        have he5 := he4.keep hb5
        clear HD4 he4 hb5
        obtain ⟨q, hq⟩ : ∃ q, q = cdB x := ⟨_, rfl⟩
        rw [← hq]
        cases q with
        | true =>
          have HD6 := Lib.hid (HD5.out.skip HX.out hq.symm)
          clear HD5 hq he5
          go_wp2_with fail
          go_roundw
          case rel => exact ⟨i, j + 1, dk, rfl, by go_num, hi, by omega, HD6⟩
          case measure => simp [intOf]; omega
        | false =>
          have HD6 := Lib.hid (HD5.out.put HX.out hq.symm)
          have hth : w5.there g (i * 6) (evC x).size := HD5.out.o.there (by rw [evC_size]; omega)
          have hsz := ev_size x
          have hone := evC_one x
          obtain ⟨es, hes⟩ : ∃ es, es = evC x := ⟨_, rfl⟩
          have hev : evV x = .agg es := by rw [hes]; rfl
          rw [← hes] at hsz hone hth HD6
          clear HD5 hq hes
          go_wp2_with (first
            | (refine load_ev (by rfl) (.tmp 7) rfl ge rfl x he5 ?_; rw [hev])
            | (refine wpList_store_mid rfl 45 (.tmp 33) (.tmp 32) rfl g (i * 6) es (by simp [Act.eval]; done) rfl hth hsz hone ?_))
          go_roundw
          case rel => exact ⟨i + 1, j + 1, _, by go_num, by go_num, by omega, by omega, HD6⟩
          case measure => simp [intOf]; omega
      · obtain rfl : j = n := by omega
        have hij := HD.out.k.lt
        have HF := Lib.hid (fun vs => show OwnV (wr.setCells g (i * 6) vs) base (some ⟨g, 0, none⟩) i c (finE f) ∧ w.grownBy (wr.setCells g (i * 6) vs) (some g) from by
          have h := HD.out.o.cutTo (i := i) (by omega) vs
          rw [HD.out.k.lo, HK.out.2, List.take_length] at h
          exact ⟨h, grownBy_cells HD.out.g HD.out.o _ _⟩)
        have HO := HD.out.o
        have hs1 := fun W => slice_fromV W (g := g) (n := j) (c := c) (i := i) (by omega) (by have := HK.out.1; omega)
        have hs2 := fun W => slice_toV W (g := g) (n := j) (c := c) (i := i) (by have := HK.out.1; omega)
        have q0 : (0 : Int) ≤ (i : Int) := by omega
        clear HD
        go_upto_region 12 with (refine wpList_clearV rfl (.tmp 38) rfl HO hij rfl ?_; intro vs)
        go_wp2_with fail
        go_ret
        exact ⟨_, rfl, (HF.out vs).1, (HF.out vs).2⟩
end Go.Proofs.Ytmneajmedopheaa
