/- Layer 7: loads of cards, of abilities, of a cost and an effect within one; how large a card is that is looked at. -/
import Derived.Test.YtnlhblnkckkeiaaCard
import Derived.Test.YtnlhblnkckkeiaaTreeHas
namespace Go.Proofs.Ytnlhblnkckkeiaa
open Go.RowKit Ex Mx
section
variable {ops : Array Oper} {rest : List Oper} {o : Oper} {a : Act} {w : World} {Q : Exit → Act → World → Prop}
/-- An ability at a place of a list, loaded whole. -/
theorem load_ab (hgd : o.guard = none) (x : Operand) (ho : o.op = .load 44 x) (b p : Nat) (hx : a.eval x = .pointer (some ⟨b, p, none⟩)) (ys : Array Value) (hs : ys.size = 14) (h : w.rangeAt b p ys.toList)
    (hK : wpList Try.prog ops Q rest (a.put o.dst (.agg ys)) w) : wpList Try.prog ops Q (o :: rest) a w := by
  refine wpList_load_mid hgd 44 x ho b p hx ys.toList _ h Try.underlying44 rfl (by rw [Array.length_toList, hs]; exact size14) ?_
  rw [Array.toArray_toList]
  exact hK
/-- A card's box, loaded whole, guarded or not. -/
theorem wantCd (hw : Region.wanted o (yielded ops a.tmps) = true) (x : Operand) (ho : o.op = .load 26 x) (g : Nat) (hx : a.eval x = .pointer (some ⟨g, 0, none⟩)) (cs : Array Value) (h : CdAt w g cs)
    (hs : (Try.prog.info? 26).map (·.size) = some cs.size) (hK : wpList Try.prog ops Q rest (a.put o.dst (.agg cs)) w) : wpList Try.prog ops Q (o :: rest) a w :=
  BigFrame.wpList_want hw fun _ hK' => wp_load_row 26 x ho g hx 26 cs (0, 0) _ h Try.underlying26 rfl hs (hK' _ _ hK)
/-- An effect within an ability, guarded or not. -/
theorem wantDo (hw : Region.wanted o (yielded ops a.tmps) = true) (x : Operand) (ho : o.op = .load 42 x) (b p : Nat) (hx : a.eval x = .pointer (some ⟨b, p, none⟩)) (xs : Array Value) (hs : xs.size = 5) (h : w.rangeAt b p xs.toList)
    (hK : wpList Try.prog ops Q rest (a.put o.dst (.agg xs)) w) : wpList Try.prog ops Q (o :: rest) a w :=
  BigFrame.wpList_want hw fun _ hK' => wp_load_mid 42 x ho b p hx xs.toList _ h Try.underlying42 rfl (by rw [Array.length_toList, hs]; exact size5) (by rw [Array.toArray_toList]; exact hK' _ _ hK)
/-- A cost within an ability or a card, guarded or not. -/
theorem wantCost (hw : Region.wanted o (yielded ops a.tmps) = true) (x : Operand) (ho : o.op = .load 23 x) (b p : Nat) (hx : a.eval x = .pointer (some ⟨b, p, none⟩)) (f : Nat → Int) (h : w.rangeAt b p (arr .i64 6 f).toList)
    (hK : wpList Try.prog ops Q rest (a.put o.dst (.agg (arr .i64 6 f))) w) : wpList Try.prog ops Q (o :: rest) a w :=
  BigFrame.wpList_want hw fun _ hK' => wp_load_mid 23 x ho b p hx (arr .i64 6 f).toList _ h Try.underlying23 rfl (by rw [Array.length_toList, arr_size]; exact size6) (by rw [Array.toArray_toList]; exact hK' _ _ hK)
end
theorem AbAt.do_ {w : World} {g : Nat} {a : AbT} {xs : Array Value} (h : AbAt w g (abC a xs)) : w.rangeAt g 9 xs.toList := by
  have := ab_do h.range
  rw [Nat.zero_add] at this; exact this
theorem AbAt.cost {w : World} {g : Nat} {a : AbT} {xs : Array Value} (h : AbAt w g (abC a xs)) : w.rangeAt g 1 (arr .i64 6 a.cost).toList := by
  have := ab_cost h.range
  rw [Nat.zero_add] at this; exact this
theorem CdAt.cost {w : World} {g : Nat} {c : CardT} {A : Option Addr} {k cc : Nat} (h : CdAt w g (cardC c A k cc)) : w.rangeAt g 3 (arr .i64 6 c.cost).toList := by
  have := cd_cost h.range
  rw [Nat.zero_add] at this; exact this
/-- A card that is looked at. -/
def SmallC (c : CardT) : Prop := c.abs.length ≤ 9 ∧ ∀ (i : Nat) (a : AbT), c.abs[i]? = some a → sizeT a.do_ ≤ 300
def LgRel (w1 : World) (c : CardT) (i : Value) (wr : World) : Prop :=
  ∃ k : Nat, i = .int .i64 ((k : Nat) : Int) ∧ k ≤ c.abs.length ∧ k ≤ 9 ∧ (∀ (j : Nat) (a : AbT), j < k → c.abs[j]? = some a → sizeT a.do_ ≤ 300) ∧ Below w1.heap.size w1 wr
def LargeCPost (c : CardT) (w : World) (e : Ending) (w' : World) : Prop := ∃ B : Bool, (B = false → SmallC c) ∧ e = .returned (.bool B) ∧ Below w.heap.size w w'
set_option linter.unusedSimpArgs false in
set_option maxRecDepth 100000 in
set_option maxHeartbeats 1000000 in
theorem largeC_any (d : Nat) (c : CardT) (cs : Array Value) (w : World) (hr : ReadsC w.heap.size w d cs c) : Calls Try.prog 8 #[.agg cs] w (LargeCPost c w) := by
  obtain ⟨_, _, _, _, _, _, A, cc, hcs, hl, hc, hx⟩ := hr
  have HX := Lib.hid hx
  have HCs := Lib.hid hcs
  clear hx hcs
  go_enter Try.func8, Try.ntmps8
  go_upto_region 1 with fail
  obtain ⟨w1, hw1⟩ : ∃ w1, w1 = w.alloc (.cells cs 26) := ⟨_, rfl⟩
  have HE := Lib.hid (show CdAt w1 w.heap.size cs by rw [hw1]; exact CdAt.new _ _)
  have hb1 : Below w.heap.size w w1 := by rw [hw1]; exact (Below.refl _ _).alloc (Nat.le_refl _) _
  rw [← hw1]
  clear hw1
  have c12 : w1.cell? ⟨w.heap.size, 12, none⟩ = some (.slice A c.abs.length cc) := by rw [HE.out.cell, HCs.out]; exact cd_abs
  go_upto_region 2 with fail
  clear c12
  go_loopw [8] (fun i wr => LgRel w1 c i wr) (fun i _ => c.abs.length - (intOf i).toNat)
  case atStart => exact ⟨0, rfl, by omega, by omega, (fun j a hj => absurd hj (by omega)), Below.refl _ _⟩
  case round =>
    obtain ⟨k, rfl, hk, hk9, hsm, hb⟩ := hrel
    have HSm := Lib.hid hsm
    clear hsm
    by_cases hlt : k < c.abs.length
    · obtain ⟨a, ha⟩ : ∃ a, c.abs[k]? = some a := ⟨_, List.getElem?_eq_getElem hlt⟩
      obtain ⟨b, o, ys, rfl, hbb, hrg, hra⟩ := (HX.out.grow hb1).grow hb k a ha
      have hd : decide ((k : Int) < (c.abs.length : Int)) = true := by simp; omega
      go_upto_region 3 with fail
      have hys := hra.size
      have hy1 := hra.one
      have hsy : (Try.prog.info? 44).map (·.size) = some ys.size := by rw [hys]; exact size14
      have hraw := hrg
      have hnew : (wr.alloc (.cells zeroA 44)).heap[wr.heap.size]? = some (.cells zeroA 44 (0, 0)) := heap_alloc_new _ _
      go_upto_region 4 with (first
        | (refine load_ab rfl (.tmp 11) rfl b (o + k * 14) rfl ys hys hraw ?_)
        | (refine wpList_store_row rfl 44 (.tmp 4) (.tmp 12) rfl wr.heap.size _ rfl rfl 44 zeroA hnew hsy (by rw [hys]; rfl) hy1 ?_))
      obtain ⟨wn, hwn, hAn, hbn⟩ := ab_box wr (xs := ys)
      have hran := hra.grow hbn
      have hbwn := keepB hbn hb
      rw [← hwn]
      clear hwn hnew hraw hy1
      by_cases h8 : 8 < k
      · have e8 : decide ((8 : Int) < (k : Int)) = true := by simp; omega
        clear hd
        go_wp2_with fail
        go_ret
        exact ⟨true, fun h => (by cases h), rfl, keepB hbwn hb1⟩
      · have e8 : decide ((8 : Int) < (k : Int)) = false := by simp; omega
        obtain ⟨_, _, _, xs, hye, hrx⟩ := hran
        have hxs := hrx.size
        have hdo := (show AbAt wn wr.heap.size (abC a xs) by rw [← hye]; exact hAn).do_
        clear hye
        go_wp2_with (refine wantDo (by rfl) (.tmp 16) rfl wr.heap.size 9 rfl xs hxs hdo ?_)
        refine (large_any d a.do_ xs wn hrx).mono ?_
        rintro e w4 ⟨q, hq, rfl, hb4⟩
        have hbw4 := keepB hb4 hbwn
        clear hdo hrx hd hb4 hbwn
        cases q with
        | true =>
          clear hq
          go_wp2_with fail
          go_ret
          exact ⟨true, fun h => (by cases h), rfl, keepB hbw4 hb1⟩
        | false =>
          have HN := Lib.hid (show ∀ (j : Nat) (x : AbT), j < k + 1 → c.abs[j]? = some x → sizeT x.do_ ≤ 300 from fun j x hj hx => by
            by_cases e : j = k
            · subst e; rw [ha] at hx; injection hx with hx; subst hx; exact (hq rfl).1
            · exact HSm.out j x (by omega) hx)
          clear hq
          go_wp2_with fail
          go_roundw
          case rel => exact ⟨k + 1, by go_num, by omega, by omega, HN.out, hbw4⟩
          case measure => simp [intOf]; omega
    · obtain rfl : k = c.abs.length := by omega
      have hd : decide ((c.abs.length : Int) < (c.abs.length : Int)) = false := by simp
      have HF := Lib.hid (show SmallC c from ⟨hk9, fun i a hi => HSm.out i a (List.getElem?_eq_some_iff.1 hi).1 hi⟩)
      go_wp2_with fail
      go_ret
      exact ⟨false, fun _ => HF.out, rfl, keepB hb hb1⟩
end Go.Proofs.Ytnlhblnkckkeiaa
