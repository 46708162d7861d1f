/- Layer 14: a list of acts as an argument: opened; the law's Long. -/
import Derived.Test.YtncmfkmgaghklaaNtArg
import Derived.Test.YtncmfkmgaghklaaEvLe
namespace Go.Proofs.Ytncmfkmgaghklaa
open Go.ChangeShapes Go.WideShapes Go.ChangeAt Go.RowKit Ex
set_option maxRecDepth 100000
namespace Ex
structure ActT where
  k : Int
  c : Int
  ev : List EvT
end Ex
open Ex
/-- An act's three cells. -/
structure AcR (B : Nat) (w : World) (cs : List Value) (a : ActT) : Prop where
  ex : ∃ A n c, cs = [.int .i64 a.k, .int .i64 a.c, .slice A n c] ∧ n ≤ c ∧ c ≤ maxLen ∧ Evs B w A n a.ev
  k : N64 a.k
  c : N64 a.c
/-- A slice that reads as acts. -/
structure Acts (B : Nat) (w : World) (A : Option Addr) (n : Nat) (l : List ActT) : Prop where
  n : n = l.length
  r : ∀ (i : Nat) (a : ActT), l[i]? = some a → ∃ b off cs, A = some ⟨b, off, none⟩ ∧ b < B ∧ w.rangeAt b (off + i * 3) cs ∧ AcR B w cs a
theorem AcR.below {B : Nat} {w w' : World} {cs : List Value} {a : ActT} (h : AcR B w cs a) (hb : Below B w w') : AcR B w' cs a := by
  obtain ⟨⟨A, n, c, h1, h2, h3, h4⟩, h5, h6⟩ := h
  exact ⟨⟨A, n, c, h1, h2, h3, h4.below hb⟩, h5, h6⟩
theorem Acts.below {B n : Nat} {w w' : World} {A : Option Addr} {l : List ActT} (h : Acts B w A n l) (hb : Below B w w') : Acts B w' A n l := ⟨h.n, fun i a hi => by
  obtain ⟨b, off, cs, h1, h2, h3, h4⟩ := h.r i a hi
  exact ⟨b, off, cs, h1, h2, range_below hb h2 h3, h4.below hb⟩⟩
theorem cellsAct : Try.prog.cellsOf 33 = 3 := by kernel_rfl
theorem cellsSlE : Try.prog.cellsOf 31 = 1 := by kernel_rfl
section
variable {H : Type} {enc : TypeId × Value → H} {W : World}
theorem reads_act (fuel : Nat) (cs : List Value) (x : DataW H × List MemPlace) (h : DataW.trod enc Try.prog W 0 (fun _ => true) true fuel 33 cs = some x) : ∃ a, AcR W.heap.size W cs a := by
  obtain ⟨xs, n, rfl, _, hlen, hlen', hf⟩ := DataW.trod_struct Try.underlying33 h
  have e5 : xs.length = 3 := hlen'
  rw [cellsAct] at hlen
  have part : ∀ i, i < 3 → ∃ y, xs[i]? = some y := fun i hi => ⟨_, List.getElem?_eq_getElem (by omega)⟩
  obtain ⟨y0, hy0⟩ := part 0 (by omega)
  obtain ⟨y1, hy1⟩ := part 1 (by omega)
  obtain ⟨y2, hy2⟩ := part 2 (by omega)
  have f0 : DataW.trod enc Try.prog W 0 (fun _ => true) true n 3 ((cs.drop 0).take (Try.prog.cellsOf 3)) = some y0 := (hf 0 _ rfl).trans hy0
  have f1 : DataW.trod enc Try.prog W 0 (fun _ => true) true n 3 ((cs.drop 1).take (Try.prog.cellsOf 3)) = some y1 := (hf 1 _ rfl).trans hy1
  have f2 : DataW.trod enc Try.prog W 0 (fun _ => true) true n 31 ((cs.drop 2).take (Try.prog.cellsOf 31)) = some y2 := (hf 2 _ rfl).trans hy2
  obtain ⟨a0, a1, a2, rfl⟩ : ∃ a0 a1 a2, cs = [a0, a1, a2] := by
    match cs, hlen with
    | [a0, a1, a2], _ => exact ⟨_, _, _, rfl⟩
  rw [cells_int] at f0 f1
  rw [cellsSlE] at f2
  simp only [List.drop_succ_cons, List.drop_zero, List.take_succ_cons, List.take_zero] at f0 f1 f2
  obtain ⟨k, g0, _, w0⟩ := DataW.trod_int Try.underlying3 f0
  obtain ⟨c, g1, _, w1⟩ := DataW.trod_int Try.underlying3 f1
  obtain ⟨q, l, g2, h1, h2, h3⟩ := trod_evs f2
  simp at g0 g1
  subst g0; subst g1; subst g2
  exact ⟨⟨k, c, l⟩, ⟨q.A, q.n, q.c, rfl, h1, h2, h3⟩, i64_of_wf w0, i64_of_wf w1⟩
theorem open_acts {base : Nat} {v : Value} {dd : DataW H} {p : List MemPlace} (hv : Value.okWide Try.prog W .any base 22 v) (h : DataW.Trod enc Try.prog W 0 (fun _ => true) true 22 v dd p) :
    ∃ A n c l, v = .slice A n c ∧ n ≤ c ∧ c ≤ maxLen ∧ Acts W.heap.size W A n l := by
  obtain ⟨A, n, c, rfl⟩ := okWide_slice Try.underlying22 hv
  obtain ⟨fuel, hf⟩ := h
  rcases DataW.trod_slice Try.underlying22 hf with ⟨g7, _⟩ | ⟨a, len, cap, elems, rest, n2, rfl, g7, _, _, hl, hm, hel, hev, _⟩
  · simp [Value.cells] at g7
    obtain ⟨rfl, rfl, rfl⟩ := g7
    exact ⟨none, 0, 0, [], rfl, Nat.le_refl _, by simp, rfl, fun i a hi => by simp at hi⟩
  · simp [Value.cells] at g7
    obtain ⟨rfl, rfl, rfl⟩ := g7
    have first : 0 < n → a.spot = none := fun h0 => by
      have h1 := hev 0 h0
      rw [List.getElem?_eq_getElem (by omega), cellsAct] at h1
      cases hc : W.cells? 0 (a.add (0 * 3)) 3 with
      | none => rw [hc] at h1; simp at h1
      | some cs' =>
        obtain ⟨_, hl5, hcell⟩ := World.cells?_some hc
        have h2 := hcell 0 (by omega)
        rw [List.getElem?_eq_getElem (by omega), Nat.zero_mul] at h2
        exact spot_none' (a := a) h2
    have each : ∀ i, i < n → ∃ o : ActT, ∃ b off cs, some a = some ⟨b, off, none⟩ ∧ b < W.heap.size ∧ W.rangeAt b (off + i * 3) cs ∧ AcR W.heap.size W cs o := by
      intro i hi
      have h1 := hev i hi
      rw [List.getElem?_eq_getElem (by omega), cellsAct] at h1
      cases hc : W.cells? 0 (a.add (i * 3)) 3 with
      | none => rw [hc] at h1; simp at h1
      | some cs' =>
        rw [hc] at h1
        simp only [Option.bind_some] at h1
        obtain ⟨o, ho⟩ := reads_act _ _ _ h1
        obtain ⟨_, hl5, hcell⟩ := World.cells?_some hc
        have hat : ∀ j, j < 3 → W.cell? ((a.add (i * 3)).add j) = cs'[j]? := hcell
        have hsp := first (by omega)
        obtain ⟨b, off, sp⟩ := a
        simp only at hsp
        subst hsp
        have hat2 : ∀ j, j < 3 → W.cell? ⟨b, off + i * 3 + j, none⟩ = cs'[j]? := fun j hj => by
          have h := hat j hj
          rw [Addr.add_mid, Addr.add_mid] at h
          exact h
        have hv0 : W.cell? ⟨b, off + i * 3 + 0, none⟩ = some cs'[0] := by rw [hat2 0 (by omega)]; exact List.getElem?_eq_getElem (by omega)
        refine ⟨o, b, off, cs', rfl, World.block_lt_of_cell? W _ hv0, fun j v hv => ?_, ho⟩
        have hj : j < cs'.length := (List.getElem?_eq_some_iff.1 hv).1
        rw [hat2 j (by omega)]; exact hv
    obtain ⟨l, hll, hlp⟩ := list_of' n each
    exact ⟨some a, n, c, l, rfl, hl, hm, hll.symm, fun i o hi => hlp i o hi⟩
end
theorem actV (a b : Int) (A : Option Addr) (n c : Nat) : (Try.prog.info? 33).map (·.size) = some (#[Value.int .i64 a, Value.int .i64 b, Value.slice A n c] : Array Value).size := by kernel_rfl
theorem actOne (a b : Int) (A : Option Addr) (n c : Nat) : (#[Value.int .i64 a, Value.int .i64 b, Value.slice A n c] : Array Value).all (·.oneCell') = true := by simp [Value.oneCell']
/-- An act in a box. -/
def ABox (W : World) (g : Nat) (k c : Int) (A : Option Addr) (n cc : Nat) : Prop := W.heap[g]? = some (.cells #[.int .i64 k, .int .i64 c, .slice A n cc] 33 (0, 0))
theorem ABox.lt {W : World} {g n cc : Nat} {k c : Int} {A : Option Addr} (h : ABox W g k c A n cc) : g < W.heap.size := (Array.getElem?_eq_some_iff.1 h).1
theorem ABox.keep {W W' : World} {g n cc : Nat} {k c : Int} {A : Option Addr} (h : ABox W g k c A n cc) (hb : Below W.heap.size W W') : ABox W' g k c A n cc := (hb.block g h.lt).trans h
theorem ABox.cells {W : World} {g n cc : Nat} {k c : Int} {A : Option Addr} (h : ABox W g k c A n cc) : W.cell? ⟨g, 0, none⟩ = some (.int .i64 k) ∧ W.cell? ⟨g, 1, none⟩ = some (.int .i64 c) ∧ W.cell? ⟨g, 2, none⟩ = some (.slice A n cc) :=
  ⟨cell_of_row W g 0 _ _ _ h, cell_of_row W g 1 _ _ _ h, cell_of_row W g 2 _ _ _ h⟩
set_option linter.unusedSimpArgs false in
set_option maxHeartbeats 0 in
theorem longA_any (A : Option Addr) (n cc : Nat) (l : List ActT) (w : World) (h : Acts w.heap.size w A n l) (hn : n ≤ maxLen) :
    Calls Try.prog 8 #[.slice A n cc] w fun en w' => ∃ b, en = .returned (.bool b) ∧ (b = false → l.length ≤ 41 ∧ ∀ a ∈ l, a.ev.length ≤ 20) ∧ Below w.heap.size w w' := by
  have H := Lib.hid h
  have hn2 : (n : Int) ≤ 9223372036854775807 := by unfold maxLen at hn; omega
  clear h hn
  go_enter Try.func8, Try.ntmps8
  go_upto_region 2 with fail
  have HB0 := Lib.hid (Below.refl w.heap.size w)
  have HA0 : Hid (∀ (i : Nat) (a : ActT), i < 0 → l[i]? = some a → a.ev.length ≤ 20) := Lib.hid (fun _ _ h => absurd h (by omega))
  go_loopw [7] (fun i wr => ∃ k : Nat, i = .int .i64 ((k : Nat) : Int) ∧ k ≤ n ∧ k ≤ 41 ∧ Hid (∀ (i : Nat) (a : ActT), i < k → l[i]? = some a → a.ev.length ≤ 20) ∧ Hid (Below w.heap.size w wr)) (fun i _ => n - (intOf i).toNat)
  case atStart => exact ⟨0, rfl, by omega, by omega, HA0, HB0⟩
  case round =>
    clear HA0 HB0
    obtain ⟨k, rfl, hk, hk41, HA, HB⟩ := hrel
    by_cases hlt : k < n
    · obtain ⟨a, ha⟩ : ∃ a, l[k]? = some a := ⟨_, List.getElem?_eq_getElem (by rw [← H.out.n]; exact hlt)⟩
      obtain ⟨b, off, cs, rfl, hb, hra, hac⟩ := H.out.r k a ha
      obtain ⟨⟨A', n', c', rfl, h1, h2, h3⟩, _, _⟩ := hac
      have hra := range_below HB.out hb hra
      have hc0 := hra 0 _ rfl
      have hc1 := hra 1 _ rfl
      have hc2 := hra 2 _ rfl
      rw [Nat.add_zero] at hc0
      have g0 : (0 : Int) ≤ (k : Int) := by omega
      have g1 : (k : Int) < (n : Int) := by omega
      have hnew : (wr.alloc (.cells #[.int .i64 0, .int .i64 0, .slice none 0 0] 33)).heap[wr.heap.size]? = some (.cells #[.int .i64 0, .int .i64 0, .slice none 0 0] 33 (0, 0)) := heap_alloc_new _ _
      have hsz := actV a.k a.c A' n' c'
      have hone := actOne a.k a.c A' n' c'
      have HN' := Lib.hid (show n' = a.ev.length from h3.n)
      have HAt := Lib.hid ha
      clear hra h3 ha h1 h2 hb
      go_upto_region 4 with (refine wpList_store_row rfl 33 (.tmp 4) (.tmp 11) rfl wr.heap.size _ rfl rfl 33 #[.int .i64 0, .int .i64 0, .slice none 0 0] hnew hsz rfl hone ?_)
      have hbn : Below wr.heap.size wr ((wr.alloc (.cells #[.int .i64 0, .int .i64 0, .slice none 0 0] 33)).setRow wr.heap.size #[.int .i64 a.k, .int .i64 a.c, .slice A' n' c']) := below_setRow ((Below.refl _ _).alloc (Nat.le_refl _) _) _ _ (Nat.le_refl _)
      have hgn : ABox ((wr.alloc (.cells #[.int .i64 0, .int .i64 0, .slice none 0 0] 33)).setRow wr.heap.size #[.int .i64 a.k, .int .i64 a.c, .slice A' n' c']) wr.heap.size a.k a.c A' n' c' := setRow_heap _ _ _ _ _ _ hnew
      obtain ⟨g, hg⟩ : ∃ g, g = wr.heap.size := ⟨_, rfl⟩
      obtain ⟨w3, hw3⟩ : ∃ W, W = (wr.alloc (.cells #[.int .i64 0, .int .i64 0, .slice none 0 0] 33)).setRow wr.heap.size #[.int .i64 a.k, .int .i64 a.c, .slice A' n' c'] := ⟨_, rfl⟩
      rw [← hw3] at hbn hgn ⊢
      rw [← hg] at hgn ⊢
      have HB3 := Lib.hid (keepB hbn HB.out)
      obtain ⟨_, _, cg2⟩ := hgn.cells
      clear hw3 hg hnew hsz hone hbn hgn hc0 hc1 hc2 HB
      by_cases h40 : (40 : Int) < (k : Int)
      · have d0 : decide ((40 : Int) < (k : Int)) = true := decide_eq_true h40
        have hb3 := HB3.out
        clear h40
        go_wp2_with fail
        go_ret
        exact ⟨true, rfl, fun h => (by cases h), hb3⟩
      · have d0 : decide ((40 : Int) < (k : Int)) = false := decide_eq_false h40
        have HK := Lib.hid (show k + 1 ≤ 41 by omega)
        by_cases h20 : (20 : Int) < (n' : Int)
        · have d1 : decide ((20 : Int) < (n' : Int)) = true := decide_eq_true h20
          have hb3 := HB3.out
          clear h40 h20
          go_wp2_with fail
          go_ret
          exact ⟨true, rfl, fun h => (by cases h), hb3⟩
        · have d1 : decide ((20 : Int) < (n' : Int)) = false := decide_eq_false h20
          have HA2 := Lib.hid (show ∀ (i : Nat) (x : ActT), i < k + 1 → l[i]? = some x → x.ev.length ≤ 20 from fun i x hi hx => by
            by_cases e : i = k
            · subst e
              rw [HAt.out] at hx; injection hx with hx
              rw [← hx, ← HN'.out]; omega
            · exact HA.out i x (by omega) hx)
          clear h40 h20
          go_wp2_with fail
          go_roundw
          case rel => exact ⟨k + 1, by go_num, by omega, HK.out, HA2, HB3⟩
          case measure => simp [intOf]; omega
    · obtain rfl : k = n := by omega
      have HF := Lib.hid (show l.length ≤ 41 ∧ ∀ a ∈ l, a.ev.length ≤ 20 from ⟨by rw [← H.out.n]; exact hk41, fun a ha => by
        obtain ⟨i, hi⟩ := List.mem_iff_getElem?.1 ha
        exact HA.out i a (by rw [H.out.n]; exact (List.getElem?_eq_some_iff.1 hi).1) hi⟩)
      have hb := HB.out
      go_wp2_with fail
      go_ret
      exact ⟨false, rfl, fun _ => HF.out, hb⟩
end Go.Proofs.Ytncmfkmgaghklaa
