/- Layer 6: the laws' walks: EffectBack. -/
import Derived.Test.YtjijnapphbeahaaTreeLaws1
namespace Go.Proofs.Ytjijnapphbeahaa
open Go.RowKit Ex Wx
theorem btT_byB : ∀ (f : Nat) (t : ET), okT f t → byB (btT t)
  | 0, _, h => absurd h (by simp [okT])
  | f + 1, .node op n m who l, h => by
    obtain ⟨i1, i2, i3, i4, h8, hx⟩ := h
    have hL : ∀ l' : List ET, (∀ (i : Nat) (t : ET), l'[i]? = some t → okT f t) → byB (btL l') := by
      intro l'
      induction l' with
      | nil => intro _; simp only [btL]; exact byB_nil
      | cons t l' ih => intro h; simp only [btL]; exact byB_append (btT_byB f t (h 0 t rfl)) (ih (fun i t hi => h (i + 1) t (by simpa using hi)))
    simp only [btT, hdT]
    exact byB_append (byB_append (byB_append (byB_append (byB_append (bts_byB i1) (bts_byB i2)) (bts_byB i3)) (bts_byB i4)) (bts_byB ⟨by omega, by omega⟩)) (hL l hx)
theorem ok_depth : ∀ (f : Nat) (t : ET), okT f t → depthT t ≤ f
  | 0, _, h => absurd h (by simp [okT])
  | f + 1, .node op n m who l, h => by
    obtain ⟨_, _, _, _, _, hx⟩ := h
    have hL : ∀ l' : List ET, (∀ (i : Nat) (t : ET), l'[i]? = some t → okT f t) → depthL l' ≤ f := by
      intro l'
      induction l' with
      | nil => intro _; simp [depthL]
      | cons t l' ih =>
        intro h
        have h1 := ok_depth f t (h 0 t rfl)
        have h2 := ih (fun i t hi => h (i + 1) t (by simpa using hi))
        simp only [depthL]; omega
    have := hL l hx
    simp only [depthT]; omega
theorem errV_no {k : Int} (h : k ≠ 0) : errV k = .iface 51 (.int .i64 k) := by unfold errV; rw [if_neg h]
set_option linter.unusedSimpArgs false in
set_option maxRecDepth 100000 in
set_option maxHeartbeats 2000000 in
theorem effectBack_walk {w : World} (S : EffSaid w) (d : Nat) (t : ET) (cs : Array Value) (tg : Int) (A2 : Option Addr) (n2 c2 : Nat) (lb : List Int) (hr : Reads w.heap.size w d cs t) (htg : In64 tg) (hN : Nums .u8 w w.heap.size A2 n2 lb) (_ : n2 ≤ c2) (hby : byB lb) :
    Calls Try.prog 6 #[.agg cs, .int .i64 tg, .slice A2 n2 c2] w fun e w' => e = .returned (.bool true) ∧ Below w.heap.size w w' := by
  obtain ⟨i0, hi, hz0, hz1, hz2⟩ := info_parts info_u8
  have hsx : (Try.prog.info? 24).map (·.size) = some cs.size := by rw [hr.size]; exact size5
  go_enter Try.func6, Try.ntmps6
  go_upto_region 1 with fail
  obtain ⟨w1, hw1⟩ : ∃ w1, w1 = w.alloc (.cells cs 24) := ⟨_, rfl⟩
  have HE := Lib.hid (show EvAt w1 w.heap.size cs by rw [hw1]; exact EvAt.new _ _)
  have hb1 : Below w.heap.size w w1 := by rw [hw1]; exact (Below.refl _ _).alloc (Nat.le_refl _) _
  rw [← hw1]
  clear hw1
  go_wp2_with fail
  refine (effAlive S w1 hb1).mono ?_
  rintro e w2 ⟨rfl, hb2⟩
  have hE2 := HE.out.keep hb2
  have hbw2 := keepB hb2 hb1
  go_wp2_with (refine wpList_load_row rfl 24 (.tmp 3) rfl w.heap.size rfl 24 _ (0, 0) _ hE2 Try.underlying24 rfl hsx ?_)
  refine (large_any d t cs w2 (hr.grow hbw2)).mono ?_
  rintro e w3 ⟨B, hB, rfl, hb3⟩
  have hE3 := hE2.keep hb3
  have hbw3 := keepB hb3 hbw2
  clear hE2 hb1 hb2 hb3 hbw2 HE
  cases B with
  | true =>
    clear hB
    go_wp2_with fail
    go_ret
    exact ⟨rfl, hbw3⟩
  | false =>
    obtain ⟨hs, _⟩ := hB rfl
    clear hB
    by_cases hn : 200 < n2
    · have f1 : decide ((200 : Int) < (n2 : Int)) = true := by simp; omega
      go_wp2_with fail
      go_ret
      exact ⟨rfl, hbw3⟩
    · have f1 : decide ((200 : Int) < (n2 : Int)) = false := by simp; omega
      go_upto_region 5 with fail
      go_wp2_with (refine wpList_load_row rfl 24 (.tmp 3) rfl w.heap.size rfl 24 _ (0, 0) _ hE3 Try.underlying24 rfl hsx ?_)
      refine (S.check d t cs tg w3 (hr.grow hbw3) hs htg hbw3).mono ?_
      rintro e w4 ⟨rfl, hb4⟩
      have hE4 := hE3.keep hb4
      have hbw4 := keepB hb4 hbw3
      clear hE3 hb4 hbw3
      by_cases hk : chkTop t tg = 0
      · have hok : okT 8 t := by
          unfold chkTop at hk
          split at hk
          · omega
          · exact ok_of_chk 8 t tg 1 hk rfl
        rw [hk, show errV 0 = .nilIface from rfl]
        have hback := tkT_back 8 t hok lb
        have hdep := ok_depth 8 t hok
        have hbt := btT_byB 8 t hok
        have hlen := btT_len t
        have HN := Lib.hid hN
        obtain ⟨op, n, m, who, l⟩ := t
        have hrs := hr
        obtain ⟨d, rfl⟩ : ∃ d', d = d' + 1 := by
          cases d with
          | zero => exact absurd hr id
          | succ d => exact ⟨d, rfl⟩
        obtain ⟨_, _, _, _, A, c, hcs, _, _, _⟩ := hrs
        have HCs := Lib.hid hcs
        obtain ⟨hop, _, _, _, hl8, _⟩ := hok
        clear hk hcs
        go_upto_region 7 with fail
        go_wp2_with (refine wpList_load_row rfl 24 (.tmp 3) rfl w.heap.size rfl 24 _ (0, 0) _ hE4 Try.underlying24 rfl hsx ?_)
        refine (S.bytes _ _ cs w4 (hr.grow hbw4) hs hbw4).mono ?_
        rintro e w5 ⟨A5, m5, c5, rfl, hown5, hb5⟩
        have hE5 := hE4.keep hb5
        have hbw5 := keepB hb5 hbw4
        have hm5 := hown5.len
        have hs45 := hb5.size
        have hlbn := hN.len
        have hbw45 := hbw4.size
        have hN5 := HN.out.belowL hbw5 (Nat.le_refl _)
        go_wp2_with (at_builtin; refine wpList_app rfl (.tmp 26) (.tmp 27) _ rfl .u8 w4.heap.size 5 i0 _ 1 Try.underlying37 hi hz0 hz1 hz2 rfl _ _ _ _ rfl hown5 _ A2 n2 c2 _ rfl hN5 (by omega) (by omega) (by omega) ?_; intro A6 c6 w6 hown6 hg6)
        have hbel6 := hown5.belowGrown hb5 (by omega) hg6
        have hbw6 : Below w.heap.size w w6 := hbw4.trans (hbel6.mono (by omega))
        have hE6 := hE4.below hbel6 hE4.lt
        have hcap6 := hown6.cap
        refine (S.take A6 (m5 + n2) c6 _ w6 _ hown6.nums (byB_append hbt hby) hcap6 (by omega) (Nat.le_refl _) hbw6).mono ?_
        rintro e w7 ⟨d7, cs7, A7, n7, c7, rfl, hr7, hN7, hc7, hb7⟩
        rw [hback] at hr7 hN7 ⊢
        simp only [if_true, List.drop_left] at hN7
        rw [show errV 0 = .nilIface from rfl]
        have hE7 := hE6.keep hb7
        have hbw7 := keepB hb7 hbw6
        have hsx7 : (Try.prog.info? 24).map (·.size) = some cs7.size := by rw [hr7.size]; exact size5
        have h17 := hr7.one
        have hs7 := hr7.size
        have hnew : (w7.alloc (.cells zeroE 24)).heap[w7.heap.size]? = some (.cells zeroE 24 (0, 0)) := heap_alloc_new _ _
        clear hown5 hown6 hg6 hbel6 hb5 hE4 hE5 hE6 hbw5 hbw6 hN5 hcap6 hback hbt
        go_upto_region 8 with (refine wpList_store_row rfl 24 (.tmp 7) (.tmp 30) rfl w7.heap.size _ rfl rfl 24 zeroE hnew hsx7 (by rw [hs7]; rfl) h17 ?_)
        obtain ⟨w8, hw8, hX8, hb8⟩ := ev_box w7 (xs := cs7)
        rw [← hw8]
        clear hw8 hnew
        have hE8 := hE7.keep hb8
        have hbw8 := keepB hb8 hbw7
        have hr8 := hr7.grow hb8
        have hN8 := hN7.below hb8
        clear hE7 hb7 hb8 hr7 hN7 hbw7 h17 hs7
        go_wp2_with (first
          | (refine wantEv (by rfl) (.tmp 7) rfl w7.heap.size rfl cs7 hX8 hsx7 ?_)
          | (refine wantEv (by rfl) (.tmp 3) rfl w.heap.size rfl cs hE8 hsx ?_))
        have hsm := S.same d7 _ cs7 _ _ cs w8 hr8 (hr.grow hbw8) hs hs hbw8
        rw [sameT_refl] at hsm
        refine hsm.mono ?_
        rintro e w9 ⟨rfl, hb9⟩
        have hE9 := hE8.keep hb9
        have hbw9 := keepB hb9 hbw8
        have hN9 := (hN8.more (B' := w8.heap.size) (by have := hX8.lt; omega)).below hb9
        clear hsm hE8 hX8 hr8 hN8 hb9
        go_wp2_with fail
        refine (numBytes_same A7 A2 n7 c7 n2 c2 lb w9 _ _ hN9 (HN.out.belowL hbw9 (Nat.le_refl _))).mono ?_
        rintro e w10 ⟨rfl, rfl⟩
        go_wp2_with (refine wantEv (by rfl) (.tmp 3) rfl w.heap.size rfl cs hE9 hsx ?_)
        refine (S.depth _ _ cs w9 (hr.grow hbw9) hs hbw9).mono ?_
        rintro e w10 ⟨rfl, hb10⟩
        have HE10 := Lib.hid (hE9.keep hb10)
        have hbw10 := keepB hb10 hbw9
        have c0 : w10.cell? ⟨w.heap.size, 0, none⟩ = some (.int .i64 op) := by rw [HE10.out.cell, HCs.out]; rfl
        have c4 : w10.cell? ⟨w.heap.size, 4, none⟩ = some (.slice A l.length c) := by rw [HE10.out.cell, HCs.out]; rfl
        obtain ⟨dp, hdp⟩ : ∃ x, x = depthT (.node op n m who l) := ⟨_, rfl⟩
        rw [← hdp] at hdep ⊢
        have f2 : decide ((8 : Int) < (dp : Int)) = false := by simp; omega
        have f3 : decide ((8 : Int) < (l.length : Int)) = false := by simp; omega
        clear hE9 hN9 hb10 hbw9 hdp
        go_upto_region 10 with fail
        go_wp2_with fail
        refine (bytesRef_any op hop w10).mono ?_
        rintro e w11 ⟨A11, m11, c11, rfl, hown11, hb11⟩
        have hE11 := HE10.out.keep hb11
        have hbw11 := keepB hb11 hbw10
        have hm11 := hown11.len
        have hst := string_at (c := c11) hown11.nums
        obtain ⟨hd, hhd⟩ : ∃ s, s = strOfNums (bts op) := ⟨_, rfl⟩
        rw [← hhd] at hst
        have hdz : hd.size = m11 := by rw [hhd, strOfNums_size, hm11]
        have HHd := Lib.hid hhd
        clear hhd c0 c4 f2 f3
        go_upto_region 11 with fail
        clear hst hown11
        go_wp2_with (refine wpList_load_row rfl 24 (.tmp 3) rfl w.heap.size rfl 24 _ (0, 0) _ hE11 Try.underlying24 rfl hsx ?_)
        refine (S.bytes _ _ cs w11 (hr.grow hbw11) hs hbw11).mono ?_
        rintro e w12 ⟨A12, m12, c12, rfl, hown12, hb12⟩
        have hbw12 := keepB hb12 hbw11
        have hm12 := hown12.len
        have hbe : btT (.node op n m who l) = bts op ++ (bts n ++ bts m ++ bts who ++ bts (l.length : Int) ++ btL l) := by
          simp only [btT, hdT, List.append_assoc]
        have hle : m11 ≤ m12 := by
          rw [← hm11, ← hm12, hbe, List.length_append]; omega
        obtain ⟨A13, hsl, hN13⟩ := cut_to (P := Try.prog) hown12.nums hown12.cap (i := m11) hle 37 (by kernel_rfl) (fun _ => by kernel_rfl)
        rw [hbe, ← hm11, List.take_left, hm11] at hN13
        have hst := string_at (c := c12) hN13
        rw [← HHd.out] at hst
        clear hN13 hown12 hbe hle hb12 hE11 hm12
        go_wp2_with fail
        go_ret
        exact ⟨by simp, hbw12⟩
      · rw [errV_no hk]
        clear hk
        go_wp2_with fail
        go_ret
        exact ⟨rfl, hbw4⟩
end Go.Proofs.Ytjijnapphbeahaa
