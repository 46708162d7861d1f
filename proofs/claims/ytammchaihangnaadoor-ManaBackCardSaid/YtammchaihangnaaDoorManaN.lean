/- Layer 4: the laws' walks: ManaBack. -/
import Derived.Test.YtammchaihangnaaDoorManaL
namespace Go.Proofs.YtammchaihangnaaDoor
open Go.RowKit Mx
attribute [local go_sem] arr_get
theorem text_then {f : Nat → Int} {t : List UInt8} (h : TextR f t 0) : IsText f t := by
  rcases h with ⟨_, _, h⟩ | ⟨_, _, _, h⟩ | ⟨h1, h2, h3, _⟩
  · cases h
  · cases h
  · exact ⟨h1, h2, h3⟩
theorem parse_yes {f : Nat → Int} {t : List UInt8} {g : Nat → Int} {k : Int} (h : IsText f t) (hp : ParseR t g k) : k = 0 ∧ ∀ i, i < 6 → g i = f i := by
  rcases hp with ⟨h1, rfl⟩ | ⟨h1, _, _⟩
  · exact ⟨rfl, text_one h1 h⟩
  · exact absurd ⟨f, h⟩ h1
set_option linter.unusedSimpArgs false in
set_option maxRecDepth 100000 in
set_option maxHeartbeats 1000000 in
theorem manaBack_walk {w : World} (T : TabT w) (f : Nat → Int) (s : ByteArray) (hw : Wide f) (ws : s.size ≤ 9223372036854775807) : Calls Tryd.prog 6 #[.agg (arr .i64 6 f), .string s] w fun e w' => e = .returned (.bool true) ∧ Below w.heap.size w w' := by
  have hsz : ∀ g, (Tryd.prog.info? 23).map (·.size) = some (arr .i64 6 g).size := fun g => by rw [arr_size]; exact size6
  have hz6 := zero6
  go_enter Tryd.func6, Tryd.ntmps6
  go_upto_region 1 with fail
  obtain ⟨w1, hw1⟩ : ∃ w1, w1 = w.alloc (.cells (arr .i64 6 f) 23) := ⟨_, rfl⟩
  have ha : ArrAt .i64 6 23 w1 w.heap.size f := by rw [hw1]; exact ArrAt.new w .i64 6 23 f
  have hb1 : Below w.heap.size w w1 := by rw [hw1]; exact (Below.refl _ _).alloc (Nat.le_refl _) _
  rw [← hw1]
  clear hw1
  go_wp2_with fail
  refine (alive_true T _ hb1).mono ?_
  rintro e w2 ⟨rfl, hb2⟩
  have ha2 := ha.keep hb2
  have hbw2 := keepB hb2 hb1
  clear ha hb2 hb1
  by_cases hlen : s.size ≤ 300
  · go_wp2_with (refine wpList_load_row rfl 23 (.tmp 2) rfl w.heap.size rfl 23 _ (0, 0) _ ha2 Tryd.underlying23 rfl (hsz f) ?_)
    refine (text_any T f _ hw hbw2).mono ?_
    rintro e wa ⟨t, k, hT, he, hba⟩
    have haa := ha2.keep hba
    have hbwa := keepB hba hbw2
    clear ha2 hba hbw2
    by_cases hk : k = 0
    · subst hk
      obtain ⟨D, hD⟩ : ∃ D : ByteArray, D = ⟨t.toArray⟩ := ⟨_, rfl⟩
      rw [show errV 0 = .nilIface from rfl, show strV t = .string D by rw [hD]; rfl] at he
      subst he
      have hDl : D.data.toList = t := by rw [hD]
      have hTt := text_then hT
      clear hT hD
      go_wp2_with fail
      refine (parse_any T D _ hbwa).mono ?_
      rw [hDl]
      rintro e wb ⟨d, k, hP, he, hbb⟩
      obtain ⟨rfl, hdf⟩ := parse_yes hTt hP
      rw [show errV 0 = .nilIface from rfl] at he
      subst he
      have hab := haa.keep hbb
      have hbwb := keepB hbb hbwa
      clear haa hbb hbwa hP hTt hDl
      have h1d := arr_one .i64 6 d
      have hnew : (wb.alloc (.cells (arr .i64 6 zeroC) 23)).heap[wb.heap.size]? = some (.cells (arr .i64 6 zeroC) 23 (0, 0)) := heap_alloc_new _ _
      go_upto_region 8 with (refine wpList_store_row rfl 23 (.tmp 7) (.tmp 27) rfl wb.heap.size _ rfl rfl 23 (arr .i64 6 zeroC) hnew (hsz d) (by rw [arr_size, arr_size]) h1d ?_)
      obtain ⟨wc, hwc⟩ : ∃ wc, wc = (wb.alloc (.cells (arr .i64 6 zeroC) 23)).setRow wb.heap.size (arr .i64 6 d) := ⟨_, rfl⟩
      have hdc : ArrAt .i64 6 23 wc wb.heap.size d := by rw [hwc]; exact ArrAt.setRow (show ArrAt .i64 6 23 _ _ _ from hnew) _
      have hbc : Below wb.heap.size wb wc := by rw [hwc]; exact below_setRow ((Below.refl _ _).alloc (Nat.le_refl _) _) _ _ (Nat.le_refl _)
      have hac := hab.keep hbc
      have hbwc := keepB hbc hbwb
      rw [← hwc]
      clear hwc hnew hbc hbwb hab h1d
      have hne := neq6 d f hdf
      go_wp2_with (first
        | (refine load_want (by rfl) 23 (.tmp 7) rfl wb.heap.size rfl 23 _ (0, 0) _ hdc Tryd.underlying23 rfl (hsz d) ?_)
        | (refine load_want (by rfl) 23 (.tmp 2) rfl w.heap.size rfl 23 _ (0, 0) _ hac Tryd.underlying23 rfl (hsz f) ?_))
      clear hne hac hdc
      refine (parse_any T s _ hbwc).mono ?_
      rintro e w3 ⟨g, k, hP, he, hb3⟩
      have hbw3 := keepB hb3 hbwc
      have h1g := arr_one .i64 6 g
      have hnew : (w3.alloc (.cells (arr .i64 6 zeroC) 23)).heap[w3.heap.size]? = some (.cells (arr .i64 6 zeroC) 23 (0, 0)) := heap_alloc_new _ _
      obtain ⟨w4, hw4⟩ : ∃ w4, w4 = (w3.alloc (.cells (arr .i64 6 zeroC) 23)).setRow w3.heap.size (arr .i64 6 g) := ⟨_, rfl⟩
      have hg4 : ArrAt .i64 6 23 w4 w3.heap.size g := by rw [hw4]; exact ArrAt.setRow (show ArrAt .i64 6 23 _ _ _ from hnew) _
      have hb4 : Below w3.heap.size w3 w4 := by rw [hw4]; exact below_setRow ((Below.refl _ _).alloc (Nat.le_refl _) _) _ _ (Nat.le_refl _)
      have hbw4 := keepB hb4 hbw3
      clear hb3 hb4 hbw3
      rcases hP with ⟨hT, rfl⟩ | ⟨_, hzr, rfl⟩
      · rw [show errV 0 = .nilIface from rfl] at he
        subst he
        go_upto_region 11 with (refine wpList_store_row rfl 23 (.tmp 9) (.tmp 39) rfl w3.heap.size _ rfl rfl 23 (arr .i64 6 zeroC) hnew (hsz g) (by rw [arr_size, arr_size]) h1g ?_)
        rw [← hw4]
        clear hw4 hnew h1g
        have HT := Lib.hid hT
        clear hT
        go_wp2_with (refine wpList_load_row rfl 23 (.tmp 9) rfl w3.heap.size rfl 23 _ (0, 0) _ hg4 Tryd.underlying23 rfl (hsz g) ?_)
        refine (text_any T g _ (good_wide HT.out.1) hbw4).mono ?_
        rintro e w5 ⟨t, k, hTx, he, hb5⟩
        obtain ⟨rfl, rfl⟩ := textR_one hTx (.inr (.inr ⟨HT.out.1, HT.out.2.1, rfl, rfl⟩))
        obtain ⟨D, hD⟩ : ∃ D : ByteArray, D = ⟨(textL g).toArray⟩ := ⟨_, rfl⟩
        rw [show errV 0 = .nilIface from rfl, show strV (textL g) = .string D by rw [hD]; rfl] at he
        subst he
        have q : (D.toList == s.toList) = true := by rw [hD, toList_mk, Lib.toList_data, HT.out.2.2]; simp
        have hg5 := hg4.keep hb5
        have hbw5 := keepB hb5 hbw4
        clear hTx hD hb5 hg4 hbw4
        go_wp2_with (refine load_want (by rfl) 23 (.tmp 9) rfl w3.heap.size rfl 23 _ (0, 0) _ hg5 Tryd.underlying23 rfl (hsz g) ?_)
        refine (good_yes (good_any g _ (good_wide HT.out.1)) HT.out.1).mono ?_
        rintro e w6 ⟨rfl, hb6⟩
        go_wp2_with fail
        go_ret
        exact ⟨rfl, keepB hb6 hbw5⟩
      · rw [show errV 2 = .iface 44 (.int .i64 2) from rfl] at he
        subst he
        go_upto_region 11 with (refine wpList_store_row rfl 23 (.tmp 9) (.tmp 39) rfl w3.heap.size _ rfl rfl 23 (arr .i64 6 zeroC) hnew (hsz g) (by rw [arr_size, arr_size]) h1g ?_)
        rw [← hw4]
        clear hw4 hnew h1g
        have heq := eq6 g zeroC hzr
        go_wp2_with (refine wpList_load_row rfl 23 (.tmp 9) rfl w3.heap.size rfl 23 _ (0, 0) _ hg4 Tryd.underlying23 rfl (hsz g) ?_)
        go_ret
        exact ⟨rfl, hbw4⟩
    · rw [show errV k = .iface 44 (.int .i64 k) by unfold errV; rw [if_neg hk]] at he
      subst he
      clear hT
      go_wp2_with fail
      refine (parse_any T s _ hbwa).mono ?_
      rintro e w3 ⟨g, k, hP, he, hb3⟩
      have hbw3 := keepB hb3 hbwa
      have h1g := arr_one .i64 6 g
      have hnew : (w3.alloc (.cells (arr .i64 6 zeroC) 23)).heap[w3.heap.size]? = some (.cells (arr .i64 6 zeroC) 23 (0, 0)) := heap_alloc_new _ _
      obtain ⟨w4, hw4⟩ : ∃ w4, w4 = (w3.alloc (.cells (arr .i64 6 zeroC) 23)).setRow w3.heap.size (arr .i64 6 g) := ⟨_, rfl⟩
      have hg4 : ArrAt .i64 6 23 w4 w3.heap.size g := by rw [hw4]; exact ArrAt.setRow (show ArrAt .i64 6 23 _ _ _ from hnew) _
      have hb4 : Below w3.heap.size w3 w4 := by rw [hw4]; exact below_setRow ((Below.refl _ _).alloc (Nat.le_refl _) _) _ _ (Nat.le_refl _)
      have hbw4 := keepB hb4 hbw3
      clear hb3 hb4 hbw3
      rcases hP with ⟨hT, rfl⟩ | ⟨_, hzr, rfl⟩
      · rw [show errV 0 = .nilIface from rfl] at he
        subst he
        go_upto_region 11 with (refine wpList_store_row rfl 23 (.tmp 9) (.tmp 39) rfl w3.heap.size _ rfl rfl 23 (arr .i64 6 zeroC) hnew (hsz g) (by rw [arr_size, arr_size]) h1g ?_)
        rw [← hw4]
        clear hw4 hnew h1g
        have HT := Lib.hid hT
        clear hT
        go_wp2_with (refine wpList_load_row rfl 23 (.tmp 9) rfl w3.heap.size rfl 23 _ (0, 0) _ hg4 Tryd.underlying23 rfl (hsz g) ?_)
        refine (text_any T g _ (good_wide HT.out.1) hbw4).mono ?_
        rintro e w5 ⟨t, k, hTx, he, hb5⟩
        obtain ⟨rfl, rfl⟩ := textR_one hTx (.inr (.inr ⟨HT.out.1, HT.out.2.1, rfl, rfl⟩))
        obtain ⟨D, hD⟩ : ∃ D : ByteArray, D = ⟨(textL g).toArray⟩ := ⟨_, rfl⟩
        rw [show errV 0 = .nilIface from rfl, show strV (textL g) = .string D by rw [hD]; rfl] at he
        subst he
        have q : (D.toList == s.toList) = true := by rw [hD, toList_mk, Lib.toList_data, HT.out.2.2]; simp
        have hg5 := hg4.keep hb5
        have hbw5 := keepB hb5 hbw4
        clear hTx hD hb5 hg4 hbw4
        go_wp2_with (refine load_want (by rfl) 23 (.tmp 9) rfl w3.heap.size rfl 23 _ (0, 0) _ hg5 Tryd.underlying23 rfl (hsz g) ?_)
        refine (good_yes (good_any g _ (good_wide HT.out.1)) HT.out.1).mono ?_
        rintro e w6 ⟨rfl, hb6⟩
        go_wp2_with fail
        go_ret
        exact ⟨rfl, keepB hb6 hbw5⟩
      · rw [show errV 2 = .iface 44 (.int .i64 2) from rfl] at he
        subst he
        go_upto_region 11 with (refine wpList_store_row rfl 23 (.tmp 9) (.tmp 39) rfl w3.heap.size _ rfl rfl 23 (arr .i64 6 zeroC) hnew (hsz g) (by rw [arr_size, arr_size]) h1g ?_)
        rw [← hw4]
        clear hw4 hnew h1g
        have heq := eq6 g zeroC hzr
        go_wp2_with (refine wpList_load_row rfl 23 (.tmp 9) rfl w3.heap.size rfl 23 _ (0, 0) _ hg4 Tryd.underlying23 rfl (hsz g) ?_)
        go_ret
        exact ⟨rfl, hbw4⟩
  · go_wp2_with fail
    go_ret
    exact ⟨rfl, hbw2⟩
end Go.Proofs.YtammchaihangnaaDoor
