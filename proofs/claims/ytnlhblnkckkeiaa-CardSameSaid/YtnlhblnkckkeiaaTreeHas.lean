/- Layer 6: the reference's Has; how large an effect is that is looked at. -/
import Derived.Test.YtnlhblnkckkeiaaTreeBase
namespace Go.Proofs.Ytnlhblnkckkeiaa
open Go.RowKit Ex
/-- What is so far, and whether it is not too much. -/
def RmR (t : ET) (dp many : Nat) (n : Int) (ok : Bool) : Prop := 0 ≤ n ∧ n ≤ 1000000 ∧ (ok = true → n = (many + sizeT t : Nat) ∧ many + sizeT t ≤ 300 ∧ dp + depthT t ≤ 41)
def RoomPost (t : ET) (dp many : Nat) (w : World) (e : Ending) (w' : World) : Prop := ∃ n ok, RmR t dp many n ok ∧ e = .returned (.tuple #[.int .i64 n, .bool ok]) ∧ Below w.heap.size w w'
theorem rmR_no {t : ET} {dp many : Nat} {n : Int} (h0 : 0 ≤ n) (h1 : n ≤ 1000000) : RmR t dp many n false := ⟨h0, h1, fun h => by cases h⟩
def RmRel (w1 : World) (l : List ET) (dp many : Nat) (mv i : Value) (wr : World) : Prop :=
  ∃ k : Nat, i = .int .i64 ((k : Nat) : Int) ∧ mv = .int .i64 ((many + 1 + sizeL (l.take k) : Nat) : Int) ∧ k ≤ l.length ∧ many + 1 + sizeL (l.take k) ≤ 300 ∧ dp + 1 + depthL (l.take k) ≤ 41 ∧ Below w1.heap.size w1 wr
set_option linter.unusedSimpArgs false in
set_option maxRecDepth 100000 in
set_option maxHeartbeats 1000000 in
theorem room_any : ∀ (d : Nat) (t : ET) (cs : Array Value) (w : World) (dp many : Nat), Reads w.heap.size w d cs t → dp ≤ 41 → many ≤ 300 →
    Calls Try.prog 35 #[.agg cs, .int .i64 (dp : Int), .int .i64 (many : Int)] w (RoomPost t dp many w) := by
  intro d
  induction d with
  | zero => exact fun t cs w _ _ h => absurd h id
  | succ d ih =>
    intro t cs w dp many hr hdp hmany
    obtain ⟨op0, n, m, who, l⟩ := t
    obtain ⟨_, _, _, _, A, c, hcs, hl, hc, hx⟩ := hr
    have HX := Lib.hid hx
    have HCs := Lib.hid hcs
    clear hx hcs
    go_enter Try.func35, Try.ntmps35
    go_upto_region 1 with fail
    obtain ⟨w1, hw1⟩ : ∃ w1, w1 = w.alloc (.cells cs 42) := ⟨_, rfl⟩
    have HE := Lib.hid (show EvAt w1 w.heap.size cs by rw [hw1]; exact EvAt.new _ _)
    have hb1 : Below w.heap.size w w1 := by rw [hw1]; exact (Below.refl _ _).alloc (Nat.le_refl _) _
    rw [← hw1]
    clear hw1
    have c4 : w1.cell? ⟨w.heap.size, 4, none⟩ = some (.slice A l.length c) := by rw [HE.out.cell, HCs.out]; rfl
    by_cases hbig : 40 < dp ∨ 300 < many + 1
    · have hbb : (decide ((40 : Int) < (dp : Int)) || decide ((300 : Int) < (many : Int) + 1)) = true := by simp; omega
      have hm1 : many + 1 ≤ 1000000 := by omega
      clear hbig
      go_wp2_with fail
      all_goals go_ret2
      all_goals exact ⟨(many : Int) + 1, false, rmR_no (by omega) (by omega), rfl, hb1⟩
    · have e1 : decide ((40 : Int) < (dp : Int)) = false := by simp; omega
      have e2 : decide ((300 : Int) < (many : Int) + 1) = false := by simp; omega
      have hdp : dp ≤ 40 := by omega
      have hmany : many + 1 ≤ 300 := by omega
      clear hbig
      go_upto_region 5 with fail
      clear c4 e1 e2
      go_loopw [2, 24] (fun mv i wr => RmRel w1 l dp many mv i wr) (fun _ i _ => l.length - (intOf i).toNat)
      case atStart => exact ⟨0, rfl, by simp [sizeL], by omega, by simp [sizeL]; omega, by simp [depthL]; omega, Below.refl _ _⟩
      case round =>
        obtain ⟨k, rfl, rfl, hk, hs, hdd, hb⟩ := hrel
        by_cases hlt : k < l.length
        · obtain ⟨t, ht⟩ : ∃ t, l[k]? = some t := ⟨_, List.getElem?_eq_getElem hlt⟩
          obtain ⟨b, o, xs, rfl, hbb, hra, hrx⟩ := HX.out k t ht
          have hd : decide ((k : Int) < (l.length : Int)) = true := by simp; omega
          have hs1 := sizeL_take l k t ht
          have hs2 := depthL_take l k t ht
          have hkk := take_len_size l k hk
          obtain ⟨u, hu⟩ : ∃ u, u = many + 1 + sizeL (l.take k) := ⟨_, rfl⟩
          rw [← hu] at hs ⊢
          have HN := Lib.hid (show many + 1 + sizeL (l.take (k + 1)) = u + sizeT t by rw [hs1, hu]; omega)
          have HD := Lib.hid hs2
          have HDd := Lib.hid hdd
          have hkr : k < 1000000 := by omega
          clear hs1 hs2 hu hkk hdd
          have hxs := hrx.size
          have hx1 := hrx.one
          have hsx : (Try.prog.info? 42).map (·.size) = some xs.size := by rw [hxs]; exact size5
          have hraw := rangeAt_below hb (by have := hb1.size; omega) (rangeAt_below hb1 hbb hra)
          have hnew : (wr.alloc (.cells zeroE 42)).heap[wr.heap.size]? = some (.cells zeroE 42 (0, 0)) := heap_alloc_new _ _
          go_upto_region 7 with (first
            | (refine load_sub rfl (.tmp 26) rfl b (o + k * 5) rfl xs hxs hraw ?_)
            | (refine wpList_store_row rfl 42 (.tmp 9) (.tmp 27) rfl wr.heap.size _ rfl rfl 42 zeroE hnew hsx (by rw [hxs]; rfl) hx1 ?_))
          obtain ⟨wn, hwn, hEn, hbn⟩ := ev_box wr (xs := xs)
          have hrn := hrx.grow (keepB hbn (keepB hb hb1))
          have hbwn := keepB hbn hb
          rw [← hwn]
          clear hwn hnew hraw hx1
          go_wp2_with (refine wpList_load_row rfl 42 (.tmp 9) rfl wr.heap.size rfl 42 _ (0, 0) _ hEn Try.underlying42 rfl hsx ?_)
          have hcall := ih t xs wn (dp + 1) u hrn (by omega) hs
          rw [show ((dp + 1 : Nat) : Int) = (dp : Int) + 1 by omega] at hcall
          refine hcall.mono ?_
          rintro e w4 ⟨n4, ok4, hR4, rfl, hb4⟩
          have hbw4 := keepB hb4 hbwn
          obtain ⟨r0, r1, r2⟩ := hR4
          clear hrn hd hb4 hbwn hcall
          cases ok4 with
          | true =>
            obtain ⟨rfl, r3, r4⟩ := r2 rfl
            have HR4 := Lib.hid r4
            clear r2 r4
            go_wp2_with fail
            go_roundw
            case rel => exact ⟨k + 1, by go_num, by rw [HN.out, Int.natCast_add], by omega, by rw [HN.out]; exact r3, by have h1 := HD.out; have h2 := HR4.out; have h3 := HDd.out; omega, hbw4⟩
            case measure => simp [intOf]; omega
          | false =>
            clear r2
            go_wp2_with fail
            go_ret2
            exact ⟨n4, false, rmR_no r0 r1, rfl, keepB hbw4 hb1⟩
        · obtain rfl : k = l.length := by omega
          have hd : decide ((l.length : Int) < (l.length : Int)) = false := by simp
          rw [List.take_length] at hs hdd ⊢
          have HR := Lib.hid (show RmR (.node op0 n m who l) dp many ((many + 1 + sizeL l : Nat) : Int) true by
            refine ⟨by omega, by omega, fun _ => ?_⟩
            simp only [sizeT, depthT]
            refine ⟨by omega, by omega, by omega⟩)
          obtain ⟨u, hu⟩ : ∃ u, u = many + 1 + sizeL l := ⟨_, rfl⟩
          rw [← hu] at hs HR ⊢
          clear hu hdd
          go_wp2_with fail
          go_ret2
          exact ⟨(u : Int), true, HR.out, rfl, keepB hb hb1⟩
def LargePost (t : ET) (w : World) (e : Ending) (w' : World) : Prop := ∃ B : Bool, (B = false → sizeT t ≤ 300 ∧ depthT t ≤ 41) ∧ e = .returned (.bool B) ∧ Below w.heap.size w w'
set_option linter.unusedSimpArgs false in
set_option maxRecDepth 100000 in
theorem large_any (d : Nat) (t : ET) (cs : Array Value) (w : World) (hr : Reads w.heap.size w d cs t) :
    Calls Try.prog 22 #[.agg cs] w (LargePost t w) := by
  have hsx : (Try.prog.info? 42).map (·.size) = some cs.size := by rw [hr.size]; exact size5
  go_enter Try.func22, Try.ntmps22
  go_upto_region 1 with fail
  obtain ⟨w1, hw1⟩ : ∃ w1, w1 = w.alloc (.cells cs 42) := ⟨_, rfl⟩
  have HE := Lib.hid (show EvAt w1 w.heap.size cs by rw [hw1]; exact EvAt.new _ _)
  have hb1 : Below w.heap.size w w1 := by rw [hw1]; exact (Below.refl _ _).alloc (Nat.le_refl _) _
  rw [← hw1]
  clear hw1
  have hE := HE.out
  go_wp2_with (refine wpList_load_row rfl 42 (.tmp 1) rfl w.heap.size rfl 42 _ (0, 0) _ hE Try.underlying42 rfl hsx ?_)
  refine (room_any d t cs w1 0 0 (hr.grow hb1) (by omega) (by omega)).mono ?_
  rintro e w2 ⟨n, ok, ⟨r0, r1, r2⟩, rfl, hb2⟩
  have hbw2 := keepB hb2 hb1
  clear hE hb2
  cases ok with
  | true =>
    obtain ⟨rfl, r3, r4⟩ := r2 rfl
    clear r2
    have HR := Lib.hid (show sizeT t ≤ 300 ∧ depthT t ≤ 41 from ⟨by omega, by omega⟩)
    have e1 : decide ((300 : Int) < (sizeT t : Int)) = false := by simp; omega
    clear r3 r4
    go_wp2_with fail
    go_ret
    exact ⟨false, fun _ => HR.out, rfl, hbw2⟩
  | false =>
    clear r2
    go_wp2_with fail
    go_ret
    exact ⟨true, fun h => (by cases h), rfl, hbw2⟩
end Go.Proofs.Ytnlhblnkckkeiaa
