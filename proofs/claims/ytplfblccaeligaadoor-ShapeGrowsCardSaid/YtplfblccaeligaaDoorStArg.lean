/- Layer 10: an argument that is a state, opened. -/
import Derived.Test.YtplfblccaeligaaDoorSt
import Derived.Test.YtplfblccaeligaaDoorSlArg
import Derived.OpenShut
namespace Go.Proofs.YtplfblccaeligaaDoor
open Go.ChangeShapes Go.WideShapes Go.RowKit Ex
set_option maxRecDepth 100000
theorem cellsObj : Tryd.prog.cellsOf 37 = 18 := by kernel_rfl
theorem cellsObjs : Tryd.prog.cellsOf 22 = 1 := by kernel_rfl
theorem cellsLists : Tryd.prog.cellsOf 24 = 11 := by kernel_rfl
theorem cellsInts : Tryd.prog.cellsOf 23 = 1 := by kernel_rfl
theorem cellsPl : Tryd.prog.cellsOf 26 = 18 := by kernel_rfl
theorem cellsNine : Tryd.prog.cellsOf 25 = 9 := by kernel_rfl
theorem cellsGm : Tryd.prog.cellsOf 27 = 7 := by kernel_rfl
theorem cellsSt : Tryd.prog.cellsOf 29 = 37 := by kernel_rfl
section
variable {H : Type} {enc : TypeId × Value → H} {W : World}
/-- The cells of an array of numbers. -/
theorem trod_nums {m : Nat} {t e : TypeId} {k : IntKind} {fuel : Nat} {cs : List Value} {x : DataW H × List MemPlace} (ht : Tryd.prog.underlying t = some (.array m e)) (he : Tryd.prog.underlying e = some (.int k)) (hc : Tryd.prog.cellsOf e = 1) (hct : Tryd.prog.cellsOf t = m)
    (h : DataW.trod enc Tryd.prog W 0 (fun _ => true) true fuel t cs = some x) : ∃ f : Nat → Int, cs = (arr k m f).toList ∧ ∀ i, i < m → (Lit.int k (f i)).wf = true := by
  obtain ⟨xs, n, _, _, hl, hlen, hx⟩ := DataW.trod_array ht h
  rw [hct] at hl
  rw [hc] at hx
  have each : ∀ i, i < m → ∃ n : Int, cs[i]? = some (.int k n) ∧ (Lit.int k n).wf = true := by
    intro i hi
    have h1 := hx i hi
    rw [Nat.mul_one, List.getElem?_eq_getElem (by omega)] at h1
    have hci : i < cs.length := by omega
    have e1 : (cs.drop i).take 1 = [cs[i]] := by rw [List.drop_eq_getElem_cons hci]; rfl
    rw [e1] at h1
    obtain ⟨z, hz, _, hw⟩ := DataW.trod_int he h1
    exact ⟨z, by rw [List.getElem?_eq_getElem hci]; simpa using hz, hw⟩
  refine ⟨fun i => match cs[i]? with | some (.int _ n) => n | _ => 0, ?_, ?_⟩
  · apply List.ext_getElem?
    intro i
    by_cases hi : i < m
    · obtain ⟨z, hz, _⟩ := each i hi
      rw [hz]
      refine Eq.symm (Eq.trans (Array.getElem?_toList ..) ((arr_get k m _ hi).trans ?_))
      simp [hz]
    · rw [List.getElem?_eq_none (by omega), List.getElem?_eq_none (by rw [Array.length_toList, arr_size]; omega)]
  · intro i hi
    obtain ⟨z, hz, hw⟩ := each i hi
    simp [hz, hw]
/-- A slice of numbers within. -/
theorem trod_list {fuel : Nat} {c : Value} {x : DataW H × List MemPlace} (h : DataW.trod enc Tryd.prog W 0 (fun _ => true) true fuel 23 [c] = some x) : ∃ (q : SlT) (l : List Int), c = q.v ∧ q.n ≤ q.c ∧ Nums .i64 W W.heap.size q.A q.n l ∧ ∀ y ∈ l, N64 y := by
  rcases open_ints Tryd.underlying23 Tryd.underlying3 cells_int h with ⟨hcs, _⟩ | ⟨a, len, cap, zs, hcs, _, hl, hm, hz, _, hcell, hw⟩
  · simp at hcs
    exact ⟨⟨none, 0, 0⟩, [], hcs, Nat.le_refl _, Nums.none_, by simp⟩
  · simp at hcs
    have hzl : zs.length = cap := by simpa using hz
    refine ⟨⟨some a, len, cap⟩, zs.take len, hcs, hl, ⟨by rw [List.length_take]; simp; omega, fun i u hu => ?_⟩, fun y hy => i64_of_wf (hw y (List.mem_of_mem_take hy))⟩
    rw [List.getElem?_take] at hu
    split at hu
    · have hlt : i < zs.length := (List.getElem?_eq_some_iff.1 hu).1
      have hcc := hcell i hlt
      rw [List.getD, hu] at hcc
      have hb := World.block_lt_of_cell? W _ hcc
      rw [addr_block] at hb
      exact ⟨a, rfl, hb, hcc⟩
    · cases hu
/-- The objects within. -/
theorem trod_objs {fuel : Nat} {c : Value} {x : DataW H × List MemPlace} (h : DataW.trod enc Tryd.prog W 0 (fun _ => true) true fuel 22 [c] = some x) :
    ∃ (q : SlT) (l : List (Nat → Int)), c = q.v ∧ q.n = l.length ∧ q.n ≤ q.c ∧ q.c ≤ maxLen ∧ RdO W.heap.size W q.A l ∧ ∀ o ∈ l, ∀ i < 18, N64 (o i) := by
  rcases DataW.trod_slice Tryd.underlying22 h with ⟨g7, _⟩ | ⟨a, len, cap, elems, rest, n2, rfl, g7, _, _, hl, hm, hel, hev, _⟩
  · simp at g7
    exact ⟨⟨none, 0, 0⟩, [], g7, rfl, Nat.le_refl _, by simp, fun i t hi => by simp at hi, by simp⟩
  · simp at g7
    have first : 0 < len → a.spot = none := fun h0 => by
      have h1 := hev 0 h0
      rw [List.getElem?_eq_getElem (by omega), cellsObj] at h1
      cases hc : W.cells? 0 (a.add (0 * 18)) 18 with
      | none => rw [hc] at h1; simp at h1
      | some cs' =>
        obtain ⟨_, hl5, hcell⟩ := World.cells?_some hc
        have h2 := hcell 0 (by omega)
        rw [List.getElem?_eq_getElem (by omega), Nat.zero_mul] at h2
        exact spot_none' (a := a) h2
    have each : ∀ i, i < len → ∃ o : Nat → Int, (∃ b off, a = ⟨b, off, none⟩ ∧ b < W.heap.size ∧ W.rangeAt b (off + i * 18) (arr .i64 18 o).toList) ∧ ∀ j < 18, N64 (o j) := by
      intro i hi
      have h1 := hev i hi
      rw [List.getElem?_eq_getElem (by omega), cellsObj] at h1
      cases hc : W.cells? 0 (a.add (i * 18)) 18 with
      | none => rw [hc] at h1; simp at h1
      | some cs' =>
        rw [hc] at h1
        simp only [Option.bind_some] at h1
        obtain ⟨o, ho, hw⟩ := trod_nums Tryd.underlying37 Tryd.underlying3 cells_int cellsObj h1
        obtain ⟨_, hl5, hcell⟩ := World.cells?_some hc
        have hat : ∀ j, j < 18 → W.cell? ((a.add (i * 18)).add j) = cs'[j]? := hcell
        have hsp := first (by omega)
        obtain ⟨b, off, sp⟩ := a
        simp only at hsp
        subst hsp
        have hat2 : ∀ j, j < 18 → W.cell? ⟨b, off + i * 18 + j, none⟩ = cs'[j]? := fun j hj => by
          have h := hat j hj
          rw [Addr.add_mid, Addr.add_mid] at h
          exact h
        have hv0 : W.cell? ⟨b, off + i * 18 + 0, none⟩ = some cs'[0] := by rw [hat2 0 (by omega)]; exact List.getElem?_eq_getElem (by omega)
        refine ⟨o, ⟨b, off, rfl, World.block_lt_of_cell? W _ hv0, fun j v hv => ?_⟩, fun j hj => i64_of_wf (hw j hj)⟩
        rw [← ho] at hv
        have hj : j < cs'.length := (List.getElem?_eq_some_iff.1 hv).1
        rw [hat2 j (by omega)]; exact hv
    obtain ⟨l, hll, hlp⟩ := list_of' len each
    refine ⟨⟨some a, len, cap⟩, l, g7, hll.symm, hl, hm, fun i o hi => ?_, fun o ho => ?_⟩
    · obtain ⟨b, off, h1, h2, h3⟩ := (hlp i o hi).1
      exact ⟨b, off, by rw [h1], h2, h3⟩
    · obtain ⟨i, hi⟩ := List.mem_iff_getElem?.1 ho
      exact (hlp i o hi).2
theorem reads_st (fuel : Nat) (cs : List Value) (x : DataW H × List MemPlace) (h : DataW.trod enc Tryd.prog W 0 (fun _ => true) true fuel 29 cs = some x) : ∃ s O L, ReadsS W.heap.size W cs.toArray s O L := by
  obtain ⟨xs, n, rfl, _, hlen, hlen', hf⟩ := DataW.trod_struct Tryd.underlying29 h
  have e5 : xs.length = 4 := hlen'
  have part : ∀ i, i < 4 → ∃ y, xs[i]? = some y := fun i hi => ⟨_, List.getElem?_eq_getElem (by omega)⟩
  obtain ⟨y0, hy0⟩ := part 0 (by omega)
  obtain ⟨y1, hy1⟩ := part 1 (by omega)
  obtain ⟨y2, hy2⟩ := part 2 (by omega)
  obtain ⟨y3, hy3⟩ := part 3 (by omega)
  have f0 : DataW.trod enc Tryd.prog W 0 (fun _ => true) true n 22 ((cs.drop 0).take (Tryd.prog.cellsOf 22)) = some y0 := (hf 0 _ rfl).trans hy0
  have f1 : DataW.trod enc Tryd.prog W 0 (fun _ => true) true n 24 ((cs.drop 1).take (Tryd.prog.cellsOf 24)) = some y1 := (hf 1 _ rfl).trans hy1
  have f2 : DataW.trod enc Tryd.prog W 0 (fun _ => true) true n 26 ((cs.drop 12).take (Tryd.prog.cellsOf 26)) = some y2 := (hf 2 _ rfl).trans hy2
  have f3 : DataW.trod enc Tryd.prog W 0 (fun _ => true) true n 27 ((cs.drop 30).take (Tryd.prog.cellsOf 27)) = some y3 := (hf 3 _ rfl).trans hy3
  rw [cellsSt] at hlen
  rw [cellsObjs, List.drop_zero] at f0
  rw [cellsLists] at f1
  rw [cellsPl] at f2
  rw [cellsGm] at f3
  have e0 : cs.take 1 = [cs[0]'(by omega)] := take_one' (by omega)
  rw [e0] at f0
  obtain ⟨O, lo, hO, ho1, ho2, ho3, ho4, ho5⟩ := trod_objs f0
  obtain ⟨gm, hg1, hg2⟩ := trod_nums Tryd.underlying27 Tryd.underlying3 cells_int cellsGm f3
  obtain ⟨xl, n1, _, _, hl1, hl2, hlx⟩ := DataW.trod_array Tryd.underlying24 f1
  have lists : ∀ z, z < 11 → ∃ (q : SlT) (l : List Int), cs[1 + z]? = some q.v ∧ q.n ≤ q.c ∧ Nums .i64 W W.heap.size q.A q.n l ∧ ∀ y ∈ l, N64 y := by
    intro z hz
    have h1 := hlx z hz
    rw [cellsInts, Nat.mul_one, List.getElem?_eq_getElem (by omega)] at h1
    have hci : 1 + z < cs.length := by omega
    have e1 : (((cs.drop 1).take 11).drop z).take 1 = [cs[1 + z]] := by
      rw [List.drop_take, List.drop_drop, List.take_take, show min 1 (11 - z) = 1 by omega, List.drop_eq_getElem_cons hci]; rfl
    rw [e1] at h1
    obtain ⟨q, l, hq, h2, h3, h4⟩ := trod_list h1
    exact ⟨q, l, by rw [List.getElem?_eq_getElem hci, hq], h2, h3, h4⟩
  obtain ⟨xp, n2, _, _, hp1, hp2, hpx⟩ := DataW.trod_array Tryd.underlying26 f2
  have pls : ∀ i, i < 2 → ∃ f : Nat → Int, (cs.drop (12 + i * 9)).take 9 = (arr .i64 9 f).toList ∧ ∀ j, j < 9 → (Lit.int .i64 (f j)).wf = true := by
    intro i hi
    have h1 := hpx i hi
    rw [cellsNine, List.getElem?_eq_getElem (by omega)] at h1
    have e1 : (((cs.drop 12).take 18).drop (i * 9)).take 9 = (cs.drop (12 + i * 9)).take 9 := by
      rw [List.drop_take, List.drop_drop, List.take_take, show min 9 (18 - i * 9) = 9 by omega]
    rw [e1] at h1
    exact trod_nums Tryd.underlying25 Tryd.underlying3 cells_int cellsNine h1
  obtain ⟨p0, hp0, wp0⟩ := pls 0 (by omega)
  obtain ⟨p1, hp1', wp1⟩ := pls 1 (by omega)
  have hL : ∃ (L : Nat → SlT) (ls : Nat → List Int), ∀ z < 11, cs[1 + z]? = some (L z).v ∧ (L z).n ≤ (L z).c ∧ Nums .i64 W W.heap.size (L z).A (L z).n (ls z) ∧ ∀ y ∈ ls z, N64 y := by
    refine ⟨fun z => if h : z < 11 then (lists z h).choose else ⟨none, 0, 0⟩, fun z => if h : z < 11 then (lists z h).choose_spec.choose else [], fun z hz => ?_⟩
    simp only [dif_pos hz]
    exact (lists z hz).choose_spec.choose_spec
  obtain ⟨L, ls, hL⟩ := hL
  refine ⟨⟨lo, ls, fun i => if i < 9 then p0 i else p1 (i - 9), gm⟩, O, L, ?_, ho1, ho2, ho3, ho4, fun z hz => (hL z hz).2.2.1, fun z hz => (hL z hz).2.1, ho5, fun z hz => (hL z hz).2.2.2, fun i hi => ?_, fun i hi => i64_of_wf (hg2 i hi)⟩
  · apply Array.ext_getElem?
    intro i
    rw [List.getElem?_toArray]
    by_cases h0 : i = 0
    · subst h0; rw [stC_objs, List.getElem?_eq_getElem (by omega), hO]
    · by_cases h1 : i < 12
      · have := (hL (i - 1) (by omega)).1
        rw [show i = 1 + (i - 1) by omega, stC_list _ _ _ _ (by omega)]
        exact this
      · by_cases h2 : i < 30
        · rw [show i = 12 + (i - 12) by omega, stC_pl _ _ _ _ (by omega)]
          by_cases h3 : i - 12 < 9
          · have := congrArg (fun l => l[i - 12]?) hp0
            simp only [Nat.zero_mul, Nat.add_zero, Array.getElem?_toList, arr_get .i64 9 p0 h3, List.getElem?_take, if_pos h3, List.getElem?_drop] at this
            show cs[12 + (i - 12)]? = some (Value.int .i64 (if i - 12 < 9 then p0 (i - 12) else p1 (i - 12 - 9)))
            rw [this, if_pos h3]
          · have := congrArg (fun l => l[i - 21]?) hp1'
            simp only [Nat.one_mul, Array.getElem?_toList, arr_get .i64 9 p1 (show i - 21 < 9 by omega), List.getElem?_take, if_pos (show i - 21 < 9 by omega), List.getElem?_drop] at this
            show cs[12 + (i - 12)]? = some (Value.int .i64 (if i - 12 < 9 then p0 (i - 12) else p1 (i - 12 - 9)))
            rw [show 12 + (i - 12) = 12 + 9 + (i - 21) by omega, this, if_neg h3, show i - 12 - 9 = i - 21 by omega]
        · by_cases h4 : i < 37
          · have := congrArg (fun l => l[i - 30]?) hg1
            simp only [Array.getElem?_toList, arr_get .i64 7 gm (show i - 30 < 7 by omega), List.getElem?_take, if_pos (show i - 30 < 7 by omega), List.getElem?_drop] at this
            rw [show i = 30 + (i - 30) by omega, stC_gm _ _ _ _ (by omega)]
            exact this
          · rw [List.getElem?_eq_none (by omega), Array.getElem?_eq_none (by rw [stC_size]; omega)]
  · show N64 (if i < 9 then p0 i else p1 (i - 9))
    split
    · exact i64_of_wf (wp0 i (by omega))
    · exact i64_of_wf (wp1 (i - 9) (by omega))
theorem open_state {base : Nat} {v : Value} {dd : DataW H} {p : List MemPlace} (hv : Value.okWide Tryd.prog W .any base 29 v) (h : DataW.Trod enc Tryd.prog W 0 (fun _ => true) true 29 v dd p) :
    ∃ s O L cs, v = .agg cs ∧ ReadsS W.heap.size W cs s O L := by
  obtain ⟨cs, rfl, _⟩ := okWide_struct Tryd.underlying29 hv
  obtain ⟨fuel, hf⟩ := h
  obtain ⟨s, O, L, ht⟩ := reads_st fuel _ _ hf
  exact ⟨s, O, L, cs, rfl, by simpa [Value.cells] using ht⟩
end
end Go.Proofs.YtplfblccaeligaaDoor
