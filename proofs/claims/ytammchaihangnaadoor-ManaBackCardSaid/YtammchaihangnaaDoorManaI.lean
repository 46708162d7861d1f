/- Layer 4: Parse, of the landed code. -/
import Derived.Test.YtammchaihangnaaDoorManaG
import Derived.Test.YtammchaihangnaaDoorManaH
import Derived.Lib.OthersKept
namespace Go.Proofs.YtammchaihangnaaDoor
open Go.RowKit Mx Go.Lib
attribute [local go_sem] arr_get
/-- What stands while a text is read. -/
structure StQ (w : World) (s : ByteArray) (i : Nat) (c : Nat → Int) (wx : World) : Prop where
  c : ArrAt .i64 6 23 wx (w.heap.size + 1) c
  r : ArrAt .i64 6 23 wx w.heap.size zeroC
  i : wx.heap[w.heap.size + 1 + 1]? = some (.stringIter s i)
  b : Below w.heap.size w wx
theorem StQ.keep {w wx wy : World} {s : ByteArray} {i : Nat} {c : Nat → Int} (h : StQ w s i c wx) (hb : Below wx.heap.size wx wy) : StQ w s i c wy where
  c := h.c.keep hb
  r := h.r.keep hb
  i := (hb.block _ (Array.getElem?_eq_some_iff.1 h.i).1).trans h.i
  b := keepB hb h.b
theorem StQ.next {w wx : World} {s : ByteArray} {i : Nat} {c : Nat → Int} (h : StQ w s i c wx) (j : Nat) : StQ w s j c (wx.iterAt (w.heap.size + 1 + 1) s j) where
  c := (iterAt_other _ _ _ _ _ (by omega)).trans h.c
  r := (iterAt_other _ _ _ _ _ (by omega)).trans h.r
  i := iterAt_heap _ _ _ i _ h.i
  b := ⟨h.b.os, h.b.tape, h.b.output, by rw [iterAt_size]; exact h.b.size, fun k hk => (iterAt_other _ _ _ _ _ (by omega)).trans (h.b.block k hk)⟩
theorem StQ.store {w wx : World} {s : ByteArray} {i : Nat} {c : Nat → Int} (h : StQ w s i c wx) (g : Nat → Int) : StQ w s i g (wx.setRow (w.heap.size + 1) (arr .i64 6 g)) where
  c := h.c.setRow g
  r := h.r.farRow (by omega) _
  i := (setRow_other _ _ _ _ (by omega)).trans h.i
  b := below_setRow h.b _ _ (by omega)
theorem StQ.pos {w wx : World} {s : ByteArray} {i : Nat} {c : Nat → Int} (h : StQ w s i c wx) : w.heap.size + 1 + 1 < wx.heap.size := (Array.getElem?_eq_some_iff.1 h.i).1
theorem text_is {f c : Nat → Int} {l : List UInt8} (h : IsText f l) (hr : rdAll zeroC l = some c) : IsText c l := by
  obtain ⟨g, h1, h2⟩ := text_reads h
  rw [hr, Option.some.injEq] at h1
  subst h1
  exact isText_congr (fun i hi => (h2 i hi).symm) h
set_option linter.unusedSimpArgs false in
set_option maxRecDepth 100000 in
set_option maxHeartbeats 1000000 in
theorem parse_any {z : World} (T : TabT z) (s : ByteArray) (w : World) (hz : Below z.heap.size z w) : Calls Tryd.prog 17 #[.string s] w (ParsePost s.data.toList errV w) := by
  have hsz0 : (Tryd.prog.info? 23).map (·.size) = some (arr .i64 6 zeroC).size := by rw [arr_size]; exact size6
  have hszg : ∀ g, (Tryd.prog.info? 23).map (·.size) = some (arr .i64 6 g).size := fun g => by rw [arr_size]; exact size6
  have h1c := arr_one .i64 6 zeroC
  have h1g := fun g => arr_one .i64 6 g
  have hz6 := zero6
  have hlen : s.data.toList.length = s.size := (Lib.size_eq s).symm
  obtain ⟨l, hl⟩ : ∃ l, l = s.data.toList := ⟨_, rfl⟩
  have hget : ∀ i (hi : i < s.size), l[i]? = some (s[i]'hi) := fun i hi => by rw [hl]; exact Lib.data_getElem? s i hi
  rw [← hl] at hlen ⊢
  have HL := Lib.hid hl
  have HGet := Lib.hid hget
  clear hget hl
  go_enter Tryd.func17, Tryd.ntmps17
  go_upto_region 3 with fail
  obtain ⟨w1, hw1⟩ : ∃ w1, w1 = (((w.alloc (.cells (arr .i64 6 zeroC) 23)).alloc (.cells (arr .i64 6 zeroC) 23)).iter s 0) := ⟨_, rfl⟩
  have hst0 : StQ w s 0 zeroC w1 := by
    have h1 := ArrAt.new w .i64 6 23 zeroC
    have h2 := ArrAt.new (w.alloc (.cells (arr .i64 6 zeroC) 23)) .i64 6 23 zeroC
    have e1 : (w.alloc (.cells (arr .i64 6 zeroC) 23)).heap.size = w.heap.size + 1 := by simp
    have e2 : ((w.alloc (.cells (arr .i64 6 zeroC) 23)).alloc (.cells (arr .i64 6 zeroC) 23)).heap.size = w.heap.size + 1 + 1 := by simp
    rw [e1] at h2
    rw [hw1]
    exact ⟨h2.alloc _, (h1.alloc _).alloc _, by rw [← e2]; exact World.iter_heap _ _ _, (((Below.refl _ _).alloc (Nat.le_refl _) _).alloc (by rw [e1]; omega) _).alloc (by rw [e2]; omega) _⟩
  have HST0 := Lib.hid hst0
  rw [← hw1]
  clear hw1 hst0
  go_loopg [] s.size (fun g wx => ∃ i c, i + g = s.size ∧ rdAll zeroC (l.take i) = some c ∧ GoodC c ∧ StQ w s i c wx)
  case atStart => exact ⟨0, zeroC, by omega, rfl, zero_good, HST0.out⟩
  case round =>
    obtain ⟨i, c, hig, hrd, hgc, hst⟩ := hrel
    have HRd := Lib.hid hrd
    have HGc := Lib.hid hgc
    have HSt := Lib.hid hst
    clear hrd hgc hst HST0
    cases gk with
    | zero =>
      obtain rfl : i = s.size := by omega
      have hnx := fun ty => run_next_end_at (P := Tryd.prog) wr (w.heap.size + 1 + 1) s s.size ty HSt.out.i (by omega)
      go_wp2_with (refine wpList_load_row rfl 23 (.tmp 4) rfl (w.heap.size + 1) rfl 23 _ (0, 0) _ HSt.out.c Tryd.underlying23 rfl (hszg c) ?_)
      have hst := HSt.out
      refine (text_any T c _ (good_wide HGc.out) (keepB hst.b hz)).mono ?_
      rintro e w4 ⟨t, k, hT, he, hb4⟩
      have HS4 := Lib.hid (hst.keep hb4)
      have hrl : rdAll zeroC l = some c := by
        have := HRd.out
        rwa [← hlen, List.take_length] at this
      clear hst hb4
      rcases hT with ⟨a1, _, _⟩ | ⟨_, a2, rfl, rfl⟩ | ⟨_, a2, rfl, rfl⟩
      · exact absurd HGc.out a1
      · have HNT := Lib.hid (show ¬ ∃ f, IsText f l from fun ⟨f, hf⟩ => a2 (text_is hf hrl).2.1)
        rw [show errV 3 = .iface 44 (.int .i64 3) from rfl] at he
        subst he
        clear a2 hrl
        go_wp2_with (refine wpList_store_row rfl 23 (.tmp 2) (.tmp 39) rfl w.heap.size _ rfl rfl 23 (arr .i64 6 zeroC) HS4.out.r hsz0 rfl h1c ?_)
        refine bodyPost_ret (v := .tuple #[.agg (arr .i64 6 zeroC), .iface 44 (.int .i64 2)]) ?_ rfl ⟨zeroC, 2, .inr ⟨HNT.out, fun _ _ => rfl, rfl⟩, rfl, below_setRow HS4.out.b _ _ (Nat.le_refl _)⟩
        exact results_cell_tmp (ty := 23) (p := 2) (q := 3) (by kernel_rfl) _ _ w.heap.size 23 _ (0, 0) _ rfl (HS4.out.r.setRow _) Tryd.underlying23 rfl hsz0
      · obtain ⟨D, hD⟩ : ∃ D : ByteArray, D = ⟨(textL c).toArray⟩ := ⟨_, rfl⟩
        have hDl : D.toList = textL c := by rw [hD, toList_mk]
        have hsl : s.toList = l := by rw [HL.out, Lib.toList_data]
        rw [show errV 0 = .nilIface from rfl, show strV (textL c) = .string D by rw [hD]; rfl] at he
        subst he
        by_cases heq : textL c = l
        · have HT := Lib.hid (show IsText c l from ⟨HGc.out, a2, heq.symm⟩)
          have q : (D.toList == s.toList) = true := by rw [hDl, hsl, heq]; simp
          clear a2 hrl hD hDl hsl heq
          go_wp2_with (first
            | (refine wpList_load_row rfl 23 (.tmp 4) rfl (w.heap.size + 1) rfl 23 _ (0, 0) _ HS4.out.c Tryd.underlying23 rfl (hszg c) ?_)
            | (refine wpList_store_row rfl 23 (.tmp 2) (.tmp 41) rfl w.heap.size _ rfl rfl 23 (arr .i64 6 zeroC) HS4.out.r (hszg c) (by rw [arr_size, arr_size]) (h1g c) ?_))
          refine bodyPost_ret (v := .tuple #[.agg (arr .i64 6 c), .nilIface]) ?_ rfl ⟨c, 0, .inl ⟨HT.out, rfl⟩, rfl, below_setRow HS4.out.b _ _ (Nat.le_refl _)⟩
          exact results_cell_tmp (ty := 23) (p := 2) (q := 3) (by kernel_rfl) _ _ w.heap.size 23 _ (0, 0) _ rfl (HS4.out.r.setRow _) Tryd.underlying23 rfl (hszg c)
        · have HNT := Lib.hid (show ¬ ∃ f, IsText f l from fun ⟨f, hf⟩ => heq (text_is hf hrl).2.2.symm)
          have q : (D.toList == s.toList) = false := by rw [hDl, hsl]; simpa using heq
          clear a2 hrl hD hDl hsl heq
          go_wp2_with (refine wpList_store_row rfl 23 (.tmp 2) (.tmp 39) rfl w.heap.size _ rfl rfl 23 (arr .i64 6 zeroC) HS4.out.r hsz0 rfl h1c ?_)
          refine bodyPost_ret (v := .tuple #[.agg (arr .i64 6 zeroC), .iface 44 (.int .i64 2)]) ?_ rfl ⟨zeroC, 2, .inr ⟨HNT.out, fun _ _ => rfl, rfl⟩, rfl, below_setRow HS4.out.b _ _ (Nat.le_refl _)⟩
          exact results_cell_tmp (ty := 23) (p := 2) (q := 3) (by kernel_rfl) _ _ w.heap.size 23 _ (0, 0) _ rfl (HS4.out.r.setRow _) Tryd.underlying23 rfl hsz0
    | succ g =>
      have hi : i < s.size := by omega
      have hb1 := HGet.out i hi
      obtain ⟨b, hb⟩ : ∃ b, s[i]'hi = b := ⟨_, rfl⟩
      rw [hb] at hb1
      obtain ⟨R, hR⟩ : ∃ R : Nat, (Utf8.decode s i).1 = R := ⟨_, rfl⟩
      obtain ⟨j, hj⟩ : ∃ j : Nat, i + (Utf8.decode s i).2 = j := ⟨_, rfl⟩
      have hRle : R ≤ 2147483647 := by rw [← hR]; exact decode_le s i
      have hcase : (R = b.toNat ∧ j = i + 1 ∧ b.toNat < 128) ∨ (128 ≤ R ∧ 128 ≤ b.toNat) := by
        by_cases h : b.toNat < 128
        · left
          have := decode_ascii s i hi (by rw [hb]; exact h)
          rw [this, hb] at hR hj
          exact ⟨hR.symm, hj.symm, h⟩
        · right
          have := decode_high s i hi (by rw [hb]; omega)
          omega
      have hnx := fun ty => run_next_any_at (P := Tryd.prog) wr (w.heap.size + 1 + 1) s i ty HSt.out.i hi
      rw [hR, hj] at hnx
      have HCase := Lib.hid hcase
      have HB1 := Lib.hid hb1
      clear hb hR hj hcase hb1
      have HS2 := Lib.hid (HSt.out.next j)
      go_upto_region 5 with fail
      obtain ⟨w2, hw2⟩ : ∃ w2, w2 = wr.iterAt (w.heap.size + 1 + 1) s j := ⟨_, rfl⟩
      rw [← hw2] at HS2 ⊢
      clear hw2 hnx
      go_wp2_with (refine wpList_load_row rfl 23 (.tmp 4) rfl (w.heap.size + 1) rfl 23 _ (0, 0) _ HS2.out.c Tryd.underlying23 rfl (hszg c) ?_)
      refine (read_any c (R : Int) _ HGc.out (by omega) (by omega)).mono ?_
      rintro e w3 ⟨g', ok, rfl, t1, t2, hb3⟩
      have HS3 := Lib.hid (HS2.out.keep hb3)
      have T1 := Lib.hid t1
      have T2 := Lib.hid t2
      clear t1 t2 hb3
      have hnew : (w3.alloc (.cells (arr .i64 6 zeroC) 23)).heap[w3.heap.size]? = some (.cells (arr .i64 6 zeroC) 23 (0, 0)) := heap_alloc_new _ _
      go_upto_region 6 with (refine wpList_store_row rfl 23 (.tmp 7) (.tmp 20) rfl w3.heap.size _ rfl rfl 23 (arr .i64 6 zeroC) hnew (hszg g') (by rw [arr_size, arr_size]) (h1g g') ?_)
      obtain ⟨w4, hw4⟩ : ∃ w4, w4 = (w3.alloc (.cells (arr .i64 6 zeroC) 23)).setRow w3.heap.size (arr .i64 6 g') := ⟨_, rfl⟩
      have hb4 : Below w3.heap.size w3 w4 := by rw [hw4]; exact below_setRow ((Below.refl _ _).alloc (Nat.le_refl _) _) _ _ (Nat.le_refl _)
      have HM := Lib.hid (show ArrAt .i64 6 23 w4 w3.heap.size g' by rw [hw4]; exact ArrAt.setRow (show ArrAt .i64 6 23 _ _ _ from hnew) _)
      have HS4 := Lib.hid (HS3.out.keep hb4)
      rw [← hw4]
      clear hw4 hnew hb4
      cases ok
      · have HNT := Lib.hid (show ¬ ∃ f, IsText f l from none_no (take_none (i := i + 1) (by
          rw [rdAll_take HRd.out HB1.out]
          rcases HCase.out with ⟨e1, _, _⟩ | ⟨_, e2⟩
          · rw [← e1]; exact T2.out rfl
          · exact rd_far (by omega))))
        go_wp2_with (refine wpList_store_row rfl 23 (.tmp 2) (.tmp 24) rfl w.heap.size _ rfl rfl 23 (arr .i64 6 zeroC) HS4.out.r hsz0 rfl h1c ?_)
        refine bodyPost_ret (v := .tuple #[.agg (arr .i64 6 zeroC), .iface 44 (.int .i64 2)]) ?_ rfl ⟨zeroC, 2, .inr ⟨HNT.out, fun _ _ => rfl, rfl⟩, rfl, below_setRow HS4.out.b _ _ (Nat.le_refl _)⟩
        exact results_cell_tmp (ty := 23) (p := 2) (q := 3) (by kernel_rfl) _ _ w.heap.size 23 _ (0, 0) _ rfl (HS4.out.r.setRow _) Tryd.underlying23 rfl hsz0
      · have hx := T1.out rfl
        have hji : j = i + 1 ∧ R = b.toNat := by
          rcases HCase.out with ⟨e1, e2, _⟩ | ⟨e1, _⟩
          · exact ⟨e2, e1⟩
          · rw [rd_far (by omega)] at hx; cases hx
        have HG := Lib.hid (rd_good HGc.out hx)
        have HX := Lib.hid (show rdAll zeroC (l.take (i + 1)) = some g' by rw [rdAll_take HRd.out HB1.out, ← hji.2]; exact hx)
        have hS5 := HS4.out.store g'
        rw [hji.1] at hS5
        have HS5 := Lib.hid hS5
        clear hx hS5 hji
        go_wp2_with (first
          | (refine wpList_load_row rfl 23 (.tmp 7) rfl w3.heap.size rfl 23 _ (0, 0) _ HM.out Tryd.underlying23 rfl (hszg g') ?_)
          | (refine wpList_store_row rfl 23 (.tmp 4) (.tmp 26) rfl (w.heap.size + 1) _ rfl rfl 23 (arr .i64 6 c) HS4.out.c (hszg g') (by rw [arr_size, arr_size]) (h1g g') ?_))
        go_roundg g
        case measure => omega
        case rel => exact ⟨i + 1, g', by omega, HX.out, HG.out, HS5.out⟩
end Go.Proofs.YtammchaihangnaaDoor
