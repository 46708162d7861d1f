/- Layer 12: the code's Copy of a state: each list in a block of its own. -/
import Derived.Test.YthedopnhhanknaaEvG2
namespace Go.Proofs.Ythedopnhhanknaa
open Go.RowKit Ex
attribute [local go_sem] arr_get
set_option maxRecDepth 100000
set_option maxHeartbeats 0 in
theorem copyC_own (s : StT) (O : SlT) (L : Nat → SlT) (cs : Array Value) (w : World) (h : ReadsS w.heap.size w cs s O L) (hn : s.objs.length ≤ 1000000) (hll : ∀ z < 11, (s.lists z).length ≤ 1000000) :
    Calls Try.prog 25 #[.agg cs] w fun e w' => ∃ cs', e = .returned (.agg cs') ∧ CopyO w s cs' w' := by
  go_enter Try.func25, Try.ntmps25
  have hcs := h.cs
  have c0 : cs[0]? = some (.slice O.A O.n O.c) := by rw [hcs]; exact stC_objs _ _ _ _
  have hOn := h.on
  have hO := h.o
  have hsz : (Try.prog.info? 29).map (·.size) = some cs.size := by rw [h.size]; exact size37
  have hone := h.one
  have H := Lib.hid h
  clear h
  obtain ⟨A, n, c⟩ := O
  simp only at c0 hOn hO
  have HC := Lib.hid hcs
  clear hcs
  subst hOn
  obtain ⟨g0, hg0⟩ : ∃ g, g = w.heap.size := ⟨_, rfl⟩
  go_upto_region 1 with fail
  have hz := st0_is
  have hb1 : Below (w.alloc (.cells cs 29)).heap.size (w.alloc (.cells cs 29)) ((w.alloc (.cells cs 29)).alloc (.cells st0 29)) := (Below.refl _ _).alloc (Nat.le_refl _) _
  have hb2 : Below w.heap.size w ((w.alloc (.cells cs 29)).alloc (.cells st0 29)) := keepB hb1 ((Below.refl _ _).alloc (Nat.le_refl _) _)
  have hs1 : StAt ((w.alloc (.cells cs 29)).alloc (.cells st0 29)) w.heap.size cs := (StAt.new w cs).keep hb1
  have hr1 : StAt ((w.alloc (.cells cs 29)).alloc (.cells st0 29)) (w.heap.size + 1) st0 := by
    have h := StAt.new (w.alloc (.cells cs 29)) st0
    simpa using h
  obtain ⟨r, hr⟩ : ∃ r, r = w.heap.size + 1 := ⟨_, rfl⟩
  obtain ⟨w2, hw2⟩ : ∃ w2, w2 = (w.alloc (.cells cs 29)).alloc (.cells st0 29) := ⟨_, rfl⟩
  rw [st0_is]
  rw [← hw2, ← hr] at hr1
  rw [← hw2] at hs1 hb2
  rw [← hw2, ← hr]
  have hrl : r < w2.heap.size := hr1.lt
  have hrw : w.heap.size ≤ r := by omega
  clear hb1 hw2 hr
  have hnew : (w2.alloc (.cells st0 29)).heap[w2.heap.size]? = some (.cells st0 29 (0, 0)) := heap_alloc_new _ _
  have hs0 : st0.size = cs.size := by rw [H.out.size, show st0.size = 37 from stC_size _ _ _ _]
  go_upto_region 2 with (first
    | (refine wpList_load_row rfl 29 (.tmp 1) rfl w.heap.size rfl 29 _ (0, 0) _ hs1 Try.underlying29 rfl hsz ?_)
    | (refine wpList_store_row rfl 29 (.tmp 3) (.tmp 6) rfl w2.heap.size _ rfl rfl 29 st0 hnew hsz hs0 hone ?_))
  have hb3 : Below w2.heap.size w2 ((w2.alloc (.cells st0 29)).setRow w2.heap.size cs) := below_setRow ((Below.refl _ _).alloc (Nat.le_refl _) _) _ _ (Nat.le_refl _)
  have hs3 := hs1.keep hb3
  have hr3 := hr1.keep hb3
  have hb3w := keepB hb3 hb2
  have hg3 : StAt ((w2.alloc (.cells st0 29)).setRow w2.heap.size cs) w2.heap.size cs := setRow_heap _ _ _ _ _ _ hnew
  have hz3 : ((w2.alloc (.cells st0 29)).setRow w2.heap.size cs).heap.size = w2.heap.size + 1 := by simp
  obtain ⟨g, hg⟩ : ∃ g, g = w2.heap.size := ⟨_, rfl⟩
  obtain ⟨w3, hw3⟩ : ∃ w3, w3 = (w2.alloc (.cells st0 29)).setRow w2.heap.size cs := ⟨_, rfl⟩
  rw [← hw3] at hs3 hr3 hb3w hg3 hz3
  rw [← hw3]
  rw [← hg] at hg3 hz3 hrl
  rw [← hg]
  clear hb3 hw3 hnew hg hb2 hs1 hr1 w2 hsz hs0 hone hz
  have hwg : w.heap.size ≤ g := by omega
  have c3 := (hs3.cell 0).trans c0
  have hO3 := hO.below hb3w
  have hb34 : Below w3.heap.size w3 w3 := Below.refl _ _
  go_upto_region 3 with (at_builtin; refine wpList_appOw rfl _ _ rfl w3.heap.size none 0 rfl (obj_nil _ _) _ A s.objs.length c s.objs rfl hO3 rfl hn (Nat.le_refl _) ?_; intro A4 c4 w4 ho4 hg4; have hb4 : Below w3.heap.size w3 w4 := hb34.grown hg4 (Nat.le_refl _) (fun g hh => by cases hh); have hf4 := frozen_of_row w4 g 0 _ _ (hg3.keep hb4); have hc4 := ((hg3.keep hb4).cell 0).trans c0)
  have HCp := Lib.hid (show CpO w g (g + 1) s L ⟨A4, s.objs.length, c4⟩ L 0 (w4.setCell ⟨g, 0, none⟩ (.slice A4 s.objs.length c4)) from by
    have ha := hg3.keep hb4
    rw [HC.out] at ha
    rw [hz3] at ho4
    exact CpO.start (keepB hb4 hb3w) ha hwg (Nat.lt_succ_self _) rfl ho4)
  have HR := Lib.hid (show StAt (w4.setCell ⟨g, 0, none⟩ (.slice A4 s.objs.length c4)) r st0 from (heap_setCell_other w4 ⟨g, 0, none⟩ r _ (by simp; omega)).trans (hr3.keep hb4))
  have hra : StAt (w4.setCell ⟨g, 0, none⟩ (.slice A4 s.objs.length c4)) w.heap.size cs := (heap_setCell_other w4 ⟨g, 0, none⟩ w.heap.size _ (by simp; omega)).trans (hs3.keep hb4)
  obtain ⟨w5, hw5⟩ : ∃ w5, w5 = w4.setCell ⟨g, 0, none⟩ (.slice A4 s.objs.length c4) := ⟨_, rfl⟩
  obtain ⟨O4, hO4⟩ : ∃ O4 : SlT, O4 = ⟨A4, s.objs.length, c4⟩ := ⟨_, rfl⟩
  rw [← hw5, ← hO4] at HCp
  rw [← hw5] at HR hra
  rw [← hw5]
  clear hw5 hO4 hf4 hc4 hb4 hg4 ho4 w4 hb34 hO3 c3 hs3 hr3 hb3w hg3 hz3 w3
  rw [HC.out] at hra
  have hra := hra.ls
  go_upto_region 4 with (refine load_lists rfl (.tmp 11) rfl w.heap.size 1 rfl (sl11 L) (sl11_size L) hra ?_)
  clear hra
  go_loopw [13] (fun i wr => ∃ (z : Nat) (L4 : Nat → SlT), i = .int .i64 ((z : Nat) : Int) ∧ z ≤ 11 ∧ Hid (CpO w g (g + 1) s L O4 L4 z wr) ∧ Hid (StAt wr r st0)) (fun i _ => 11 - (intOf i).toNat)
  case atStart => exact ⟨0, L, rfl, by omega, HCp, HR⟩
  case round =>
    clear HCp HR
    obtain ⟨z, L4, rfl, hz, HP, HR⟩ := hrel
    by_cases hlt : z < 11
    · have hd : decide ((z : Int) < 11) = true := by simp; omega
      obtain ⟨A2, n2, c2, hix, _, hN0⟩ := list_at H.out hlt
      have hN := hN0.below HP.out.b
      have hln := hN0.len
      have hnm : n2 ≤ 1000000 := hln ▸ hll z hlt
      have p0 : (0 : Int) ≤ (z : Int) := by omega
      have p1 : (z : Int) < 11 := by omega
      have hg0 := HP.out.a
      have hbr : Below wr.heap.size wr wr := Below.refl _ _
      have hgr := HP.out.a.lt
      have how : Own .i64 3 wr wr.heap.size none 0 0 [] := Own.nil wr
      obtain ⟨i0, hi, hz0, hz1, hz2⟩ := info_parts st_info_int
      have hbs : wr.heap.size ≤ wr.heap.size := Nat.le_refl _
      clear hN0 hln
      go_wp2_with (at_builtin; refine wpList_app rfl _ _ _ rfl .i64 wr.heap.size 3 i0 _ 8 Try.underlying23 hi hz0 hz1 hz2 rfl none 0 0 [] rfl how w.heap.size A2 n2 c2 (s.lists z) rfl hN (by omega) (by omega) (Nat.le_refl _) ?_; intro A5 c5 w5 ho5 hg5; have hb5 : Below wr.heap.size wr w5 := hbr.grown hg5 (Nat.le_refl _) (fun g hh => by cases hh); have hf5 := frozen_of_row w5 g (1 + z) _ _ (hg0.keep hb5); have hc5 := ((hg0.keep hb5).cell (1 + z)).trans (stC_list _ _ _ _ hlt); rw [Nat.zero_add, List.nil_append] at ho5)
      have HP2 := Lib.hid (show CpO w g (g + 1) s L O4 (updS L4 z ⟨A5, n2, c5⟩) (z + 1) (w5.setCell ⟨g, 1 + z, none⟩ (.slice A5 n2 c5)) from (HP.out.keep hb5).next hlt hwg (Nat.lt_succ_self _) (ho5.base_le (show g + 1 ≤ wr.heap.size by omega)) (fun y hy j hj h2 => by
        have h3 := (ho5.2.lt j h2).1
        have h4 := ((HP.out.l y hy).2.lt j hj).2
        omega))
      have HR2 := Lib.hid (show StAt (w5.setCell ⟨g, 1 + z, none⟩ (.slice A5 n2 c5)) r st0 from (heap_setCell_other w5 ⟨g, 1 + z, none⟩ r _ (by simp; omega)).trans (HR.out.keep hb5))
      clear hf5 hc5 hb5 hg5 ho5 hi hz0 hz1 hz2 how
      go_roundw
      case rel => exact ⟨z + 1, _, by go_num, by omega, HP2, HR2⟩
      case measure => simp [intOf]; omega
    · obtain rfl : z = 11 := by omega
      have hg9 := HP.out.a
      have hr9 := HR.out
      have HZ := Lib.hid (HP.out.copy hrw (by omega))
      obtain ⟨cs9, hcs9⟩ : ∃ cs9, cs9 = stC O4 L4 s.pl s.gm := ⟨_, rfl⟩
      have hsz9 : (Try.prog.info? 29).map (·.size) = some cs9.size := by rw [hcs9, stC_size]; exact size37
      have hs9 : st0.size = cs9.size := by rw [hcs9, stC_size, show st0.size = 37 from stC_size _ _ _ _]
      have hone9 : cs9.all (·.oneCell') = true := by rw [hcs9]; exact stC_one _ _ _ _
      rw [← hcs9] at HZ hg9
      clear hcs9 HP HR
      go_wp2_with (first
        | (refine wpList_load_row rfl 29 (.tmp 3) rfl g rfl 29 _ (0, 0) _ hg9 Try.underlying29 rfl hsz9 ?_)
        | (refine wpList_store_row rfl 29 (.tmp 2) (.tmp 23) rfl r _ rfl rfl 29 st0 hr9 hsz9 hs9 hone9 ?_))
      refine bodyPost_ret (v := .agg cs9) ?_ rfl ⟨cs9, rfl, HZ.out⟩
      exact results_cell_row (ty := 29) (p := 2) (by kernel_rfl) _ _ r 29 _ (0, 0) _ rfl (setRow_heap _ _ _ _ _ _ hr9) Try.underlying29 rfl hsz9
end Go.Proofs.Ythedopnhhanknaa
