/- Layer 6: contracts of effect's Size, Depth and Has. -/
import Derived.Test.YtjijnapphbeahaaTreeBase
namespace Go.Proofs.Ytjijnapphbeahaa
open Go.RowKit Ex
def CSzRel (w1 : World) (l : List ET) (n i : Value) (wr : World) : Prop :=
  ∃ k : Nat, i = .int .i64 ((k : Nat) : Int) ∧ n = .int .i64 ((1 + sizeL (l.take k) : Nat) : Int) ∧ k ≤ l.length ∧ Below w1.heap.size w1 wr
set_option linter.unusedSimpArgs false in
set_option maxRecDepth 100000 in
set_option maxHeartbeats 1000000 in
theorem size_eff : ∀ (d : Nat) (t : ET) (cs : Array Value) (w : World), Reads w.heap.size w d cs t → sizeT t ≤ 1000000 →
    Calls Try.prog 13 #[.agg cs] w fun e w' => e = .returned (.int .i64 (sizeT t : Nat)) ∧ Below w.heap.size w w' := by
  intro d
  induction d with
  | zero => exact fun t cs w h => absurd h id
  | succ d ih =>
    intro t cs w hr hsz
    obtain ⟨op, n, m, who, l⟩ := t
    obtain ⟨_, _, _, _, A, c, hcs, hl, hc, hx⟩ := hr
    have HX := Lib.hid hx
    have HCs := Lib.hid hcs
    simp only [sizeT] at hsz
    clear hx hcs
    go_enter Try.func13, Try.ntmps13
    go_upto_region 1 with fail
    obtain ⟨w1, hw1⟩ : ∃ w1, w1 = w.alloc (.cells cs 24) := ⟨_, rfl⟩
    have HE := Lib.hid (show EvAt w1 w.heap.size cs by rw [hw1]; exact EvAt.new _ _)
    have hb1 : Below w.heap.size w w1 := by rw [hw1]; exact (Below.refl _ _).alloc (Nat.le_refl _) _
    rw [← hw1]
    clear hw1
    have c4 : w1.cell? ⟨w.heap.size, 4, none⟩ = some (.slice A l.length c) := by rw [HE.out.cell, HCs.out]; rfl
    go_upto_region 3 with fail
    clear c4
    go_loopw [3, 9] (fun n i wr => CSzRel w1 l n i wr) (fun _ i _ => l.length - (intOf i).toNat)
    case atStart => exact ⟨0, rfl, by simp [sizeL], by omega, Below.refl _ _⟩
    case round =>
      obtain ⟨k, rfl, rfl, hk, hb⟩ := hrel
      by_cases hlt : k < l.length
      · obtain ⟨t, ht⟩ : ∃ t, l[k]? = some t := ⟨_, List.getElem?_eq_getElem hlt⟩
        obtain ⟨b, o, xs, rfl, hbb, hra, hrx⟩ := HX.out k t ht
        have hd : decide ((k : Int) < (l.length : Int)) = true := by simp; omega
        go_upto_region 4 with fail
        have hxs := hrx.size
        have hx1 := hrx.one
        have hsx : (Try.prog.info? 24).map (·.size) = some xs.size := by rw [hxs]; exact size5
        have hraw := rangeAt_below hb (by have := hb1.size; omega) (rangeAt_below hb1 hbb hra)
        have hnew : (wr.alloc (.cells zeroE 24)).heap[wr.heap.size]? = some (.cells zeroE 24 (0, 0)) := heap_alloc_new _ _
        go_upto_region 5 with (first
          | (refine load_sub rfl (.tmp 11) rfl b (o + k * 5) rfl xs hxs hraw ?_)
          | (refine wpList_store_row rfl 24 (.tmp 5) (.tmp 12) rfl wr.heap.size _ rfl rfl 24 zeroE hnew hsx (by rw [hxs]; rfl) hx1 ?_))
        obtain ⟨wn, hwn, hEn, hbn⟩ := ev_box wr (xs := xs)
        have hrn := hrx.grow (keepB hbn (keepB hb hb1))
        have hbwn := keepB hbn hb
        rw [← hwn]
        clear hwn hnew hraw hx1
        go_wp2_with (refine wpList_load_row rfl 24 (.tmp 5) rfl wr.heap.size rfl 24 _ (0, 0) _ hEn Try.underlying24 rfl hsx ?_)
        have hts := size_mem ht
        refine (ih t xs wn hrn (by omega)).mono ?_
        rintro e w4 ⟨rfl, hb4⟩
        have hbw4 := keepB hb4 hbwn
        have hs1 := sizeL_take l k t ht
        have hs2 := sizeL_take_le l (k + 1)
        obtain ⟨u, hu⟩ : ∃ u, u = sizeL (l.take k) := ⟨_, rfl⟩
        obtain ⟨x, hx⟩ : ∃ x, x = sizeT t := ⟨_, rfl⟩
        rw [← hu] at hs1 ⊢
        rw [← hx] at hs1 hts ⊢
        have HS1 := Lib.hid hs1
        have hk1 : k + 1 ≤ l.length := by omega
        have hr : 1 + u + x ≤ 1000000 := by omega
        have hlen := sizeL_len l
        have hkr : k < 1000000 := by omega
        clear hu hx hs1 hs2 hts hd hb4 hbwn hrn hlen
        go_wp2_with fail
        go_roundw
        case rel => exact ⟨k + 1, by go_num, by rw [HS1.out]; go_num, hk1, hbw4⟩
        case measure => simp [intOf]; omega
      · obtain rfl : k = l.length := by omega
        rw [List.take_length]
        have HST := Lib.hid (show sizeT (.node op n m who l) = 1 + sizeL l by simp only [sizeT])
        obtain ⟨u, hu⟩ : ∃ u, u = sizeL l := ⟨_, rfl⟩
        rw [← hu] at hsz HST ⊢
        have hd : decide ((l.length : Int) < (l.length : Int)) = false := by simp
        clear hu
        go_wp2_with fail
        go_ret
        exact ⟨by rw [HST.out]; rfl, keepB hb hb1⟩
def CDpRel (w1 : World) (l : List ET) (n i : Value) (wr : World) : Prop :=
  ∃ k : Nat, i = .int .i64 ((k : Nat) : Int) ∧ n = .int .i64 ((depthL (l.take k) : Nat) : Int) ∧ k ≤ l.length ∧ Below w1.heap.size w1 wr
set_option linter.unusedSimpArgs false in
set_option maxRecDepth 100000 in
set_option maxHeartbeats 1000000 in
theorem depth_eff : ∀ (d : Nat) (t : ET) (cs : Array Value) (w : World), Reads w.heap.size w d cs t → sizeT t ≤ 1000000 →
    Calls Try.prog 14 #[.agg cs] w fun e w' => e = .returned (.int .i64 (depthT t : Nat)) ∧ Below w.heap.size w w' := by
  intro d
  induction d with
  | zero => exact fun t cs w h => absurd h id
  | succ d ih =>
    intro t cs w hr hsz
    obtain ⟨op, n, m, who, l⟩ := t
    obtain ⟨_, _, _, _, A, c, hcs, hl, hc, hx⟩ := hr
    have HX := Lib.hid hx
    have HCs := Lib.hid hcs
    simp only [sizeT] at hsz
    clear hx hcs
    go_enter Try.func14, Try.ntmps14
    go_upto_region 1 with fail
    obtain ⟨w1, hw1⟩ : ∃ w1, w1 = w.alloc (.cells cs 24) := ⟨_, rfl⟩
    have HE := Lib.hid (show EvAt w1 w.heap.size cs by rw [hw1]; exact EvAt.new _ _)
    have hb1 : Below w.heap.size w w1 := by rw [hw1]; exact (Below.refl _ _).alloc (Nat.le_refl _) _
    rw [← hw1]
    clear hw1
    have c4 : w1.cell? ⟨w.heap.size, 4, none⟩ = some (.slice A l.length c) := by rw [HE.out.cell, HCs.out]; rfl
    go_upto_region 3 with fail
    clear c4
    go_loopw [3, 9] (fun n i wr => CDpRel w1 l n i wr) (fun _ i _ => l.length - (intOf i).toNat)
    case atStart => exact ⟨0, rfl, by simp [depthL], by omega, Below.refl _ _⟩
    case round =>
      obtain ⟨k, rfl, rfl, hk, hb⟩ := hrel
      by_cases hlt : k < l.length
      · obtain ⟨t, ht⟩ : ∃ t, l[k]? = some t := ⟨_, List.getElem?_eq_getElem hlt⟩
        obtain ⟨b, o, xs, rfl, hbb, hra, hrx⟩ := HX.out k t ht
        have hd : decide ((k : Int) < (l.length : Int)) = true := by simp; omega
        go_upto_region 4 with fail
        have hxs := hrx.size
        have hx1 := hrx.one
        have hsx : (Try.prog.info? 24).map (·.size) = some xs.size := by rw [hxs]; exact size5
        have hraw := rangeAt_below hb (by have := hb1.size; omega) (rangeAt_below hb1 hbb hra)
        have hnew : (wr.alloc (.cells zeroE 24)).heap[wr.heap.size]? = some (.cells zeroE 24 (0, 0)) := heap_alloc_new _ _
        go_upto_region 5 with (first
          | (refine load_sub rfl (.tmp 11) rfl b (o + k * 5) rfl xs hxs hraw ?_)
          | (refine wpList_store_row rfl 24 (.tmp 5) (.tmp 12) rfl wr.heap.size _ rfl rfl 24 zeroE hnew hsx (by rw [hxs]; rfl) hx1 ?_))
        obtain ⟨wn, hwn, hEn, hbn⟩ := ev_box wr (xs := xs)
        have hrn := hrx.grow (keepB hbn (keepB hb hb1))
        have hbwn := keepB hbn hb
        rw [← hwn]
        clear hwn hnew hraw hx1
        go_wp2_with (refine wpList_load_row rfl 24 (.tmp 5) rfl wr.heap.size rfl 24 _ (0, 0) _ hEn Try.underlying24 rfl hsx ?_)
        have hts := size_mem ht
        refine (ih t xs wn hrn (by omega)).mono ?_
        rintro e w4 ⟨rfl, hb4⟩
        have hbw4 := keepB hb4 hbwn
        have hs1 := sizeL_take_le l k
        have hs3 := depthL_take l k t ht
        have hs4 := depth_size t
        have hs5 := depthL_size (l.take k)
        obtain ⟨v, hv⟩ : ∃ v, v = depthL (l.take k) := ⟨_, rfl⟩
        obtain ⟨y, hy⟩ : ∃ y, y = depthT t := ⟨_, rfl⟩
        rw [← hv] at hs3 hs5 ⊢
        rw [← hy] at hs3 hs4 ⊢
        have HS3 := Lib.hid hs3
        have hk1 : k + 1 ≤ l.length := by omega
        have hmax : (if v < y then (y : Int) else (v : Int)) = ((max v y : Nat) : Int) := by split <;> omega
        have hlen := sizeL_len l
        have hkr : k < 1000000 := by omega
        have hvr : v ≤ 1000000 := by omega
        have hyr : y ≤ 1000000 := by omega
        clear hv hy hs1 hs3 hs4 hs5 hts hd hb4 hbwn hrn hlen
        go_wp2_with fail
        go_roundw
        case rel => exact ⟨k + 1, by go_num, by rw [HS3.out] <;> (congr 1; omega), hk1, hbw4⟩
        case measure => simp [intOf]; omega
      · obtain rfl : k = l.length := by omega
        have hdep := depthL_size l
        rw [List.take_length]
        have HDT := Lib.hid (show depthT (.node op n m who l) = 1 + depthL l by simp only [depthT])
        obtain ⟨v, hv⟩ : ∃ v, v = depthL l := ⟨_, rfl⟩
        rw [← hv] at hdep HDT ⊢
        have hvr : v ≤ 1000000 := by omega
        have hd : decide ((l.length : Int) < (l.length : Int)) = false := by simp
        clear hv hdep
        go_wp2_with fail
        go_ret
        refine ⟨?_, keepB hb hb1⟩
        rw [HDT.out]
        rw [show ((1 + v : Nat) : Int) = (v : Int) + 1 by omega]
        rfl
def CHsRel (w1 : World) (op : Int) (l : List ET) (i : Value) (wr : World) : Prop :=
  ∃ k : Nat, i = .int .i64 ((k : Nat) : Int) ∧ hasL op (l.take k) = false ∧ k ≤ l.length ∧ Below w1.heap.size w1 wr
theorem hasL_yes (op : Int) : ∀ (l : List ET) (i : Nat) (t : ET), l[i]? = some t → hasT op t = true → hasL op l = true
  | [], i, t, h, _ => by simp at h
  | x :: l, 0, t, h, hh => by simp at h; subst h; simp [hasL, hh]
  | x :: l, i + 1, t, h, hh => by
    have := hasL_yes op l i t (by simpa using h) hh
    simp only [hasL, this, Bool.or_true]
set_option linter.unusedSimpArgs false in
set_option maxRecDepth 100000 in
set_option maxHeartbeats 1000000 in
theorem has_eff : ∀ (d : Nat) (t : ET) (cs : Array Value) (w : World) (op : Int), Reads w.heap.size w d cs t → sizeT t ≤ 1000000 →
    Calls Try.prog 15 #[.agg cs, .int .i64 op] w fun e w' => e = .returned (.bool (hasT op t)) ∧ Below w.heap.size w w' := by
  intro d
  induction d with
  | zero => exact fun t cs w _ h => absurd h id
  | succ d ih =>
    intro t cs w op hr hsz
    obtain ⟨op0, n, m, who, l⟩ := t
    obtain ⟨_, _, _, _, A, c, hcs, hl, hc, hx⟩ := hr
    have HX := Lib.hid hx
    have HCs := Lib.hid hcs
    simp only [sizeT] at hsz
    clear hx hcs
    go_enter Try.func15, Try.ntmps15
    go_upto_region 1 with fail
    obtain ⟨w1, hw1⟩ : ∃ w1, w1 = w.alloc (.cells cs 24) := ⟨_, rfl⟩
    have HE := Lib.hid (show EvAt w1 w.heap.size cs by rw [hw1]; exact EvAt.new _ _)
    have hb1 : Below w.heap.size w w1 := by rw [hw1]; exact (Below.refl _ _).alloc (Nat.le_refl _) _
    rw [← hw1]
    clear hw1
    have c0 : w1.cell? ⟨w.heap.size, 0, none⟩ = some (.int .i64 op0) := by rw [HE.out.cell, HCs.out]; rfl
    have c4 : w1.cell? ⟨w.heap.size, 4, none⟩ = some (.slice A l.length c) := by rw [HE.out.cell, HCs.out]; rfl
    by_cases e0 : op0 = op
    · have HH := Lib.hid (show hasT op (.node op0 n m who l) = true by simp [hasT, e0])
      have f0 : (op0 == op) = true := by simpa using e0
      clear e0
      go_wp2_with fail
      go_ret
      exact ⟨by rw [HH.out]; rfl, hb1⟩
    · have f0 : (op0 == op) = false := by simpa using e0
      have HH := Lib.hid (show hasT op (.node op0 n m who l) = hasL op l by simp [hasT, f0])
      clear e0
      go_upto_region 4 with fail
      clear c4 c0
      go_loopw [14] (fun i wr => CHsRel w1 op l i wr) (fun i _ => l.length - (intOf i).toNat)
      case atStart => exact ⟨0, rfl, by simp [hasL], by omega, Below.refl _ _⟩
      case round =>
        obtain ⟨k, rfl, hq, hk, hb⟩ := hrel
        have hlen := sizeL_len l
        by_cases hlt : k < l.length
        · obtain ⟨t, ht⟩ : ∃ t, l[k]? = some t := ⟨_, List.getElem?_eq_getElem hlt⟩
          obtain ⟨b, o, xs, rfl, hbb, hra, hrx⟩ := HX.out k t ht
          have hd : decide ((k : Int) < (l.length : Int)) = true := by simp; omega
          have hts := size_mem ht
          have HTk := Lib.hid (show hasL op (l.take (k + 1)) = hasT op t by rw [hasL_take op l k t ht, hq, Bool.false_or])
          have HYes := Lib.hid (hasL_yes op l k t ht)
          have hkr : k < 1000000 := by omega
          clear hq
          go_upto_region 5 with fail
          have hxs := hrx.size
          have hx1 := hrx.one
          have hsx : (Try.prog.info? 24).map (·.size) = some xs.size := by rw [hxs]; exact size5
          have hraw := rangeAt_below hb (by have := hb1.size; omega) (rangeAt_below hb1 hbb hra)
          have hnew : (wr.alloc (.cells zeroE 24)).heap[wr.heap.size]? = some (.cells zeroE 24 (0, 0)) := heap_alloc_new _ _
          go_upto_region 6 with (first
            | (refine load_sub rfl (.tmp 16) rfl b (o + k * 5) rfl xs hxs hraw ?_)
            | (refine wpList_store_row rfl 24 (.tmp 6) (.tmp 17) rfl wr.heap.size _ rfl rfl 24 zeroE hnew hsx (by rw [hxs]; rfl) hx1 ?_))
          obtain ⟨wn, hwn, hEn, hbn⟩ := ev_box wr (xs := xs)
          have hrn := hrx.grow (keepB hbn (keepB hb hb1))
          have hbwn := keepB hbn hb
          rw [← hwn]
          clear hwn hnew hraw hx1
          go_wp2_with (refine wpList_load_row rfl 24 (.tmp 6) rfl wr.heap.size rfl 24 _ (0, 0) _ hEn Try.underlying24 rfl hsx ?_)
          refine (ih t xs wn op hrn (by omega)).mono ?_
          rintro e w4 ⟨rfl, hb4⟩
          have hbw4 := keepB hb4 hbwn
          obtain ⟨v, hv⟩ : ∃ v, v = hasT op t := ⟨_, rfl⟩
          rw [← hv] at HTk HYes ⊢
          clear hrn hts hd hb4 hbwn hv
          cases v with
          | true =>
            have HF := Lib.hid (HH.out.trans (HYes.out rfl))
            go_wp2_with fail
            go_ret
            exact ⟨by rw [HF.out]; rfl, keepB hbw4 hb1⟩
          | false =>
            go_wp2_with fail
            go_roundw
            case rel => exact ⟨k + 1, by go_num, HTk.out, by omega, hbw4⟩
            case measure => simp [intOf]; omega
        · obtain rfl : k = l.length := by omega
          have hd : decide ((l.length : Int) < (l.length : Int)) = false := by simp
          rw [List.take_length] at hq
          have HF := Lib.hid (HH.out.trans hq)
          clear hq hlen
          go_wp2_with fail
          go_ret
          exact ⟨by rw [HF.out]; rfl, keepB hb hb1⟩
end Go.Proofs.Ytjijnapphbeahaa
