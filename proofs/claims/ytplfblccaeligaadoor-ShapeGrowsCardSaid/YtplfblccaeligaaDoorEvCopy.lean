/- Layer 12: mulligannum's Copy, with what is the call's own. -/
import Derived.Test.YtplfblccaeligaaDoorEvOwn
namespace Go.Proofs.YtplfblccaeligaaDoor
open Go.RowKit Ex
attribute [local go_sem] arr_get
set_option maxRecDepth 100000
set_option maxHeartbeats 0 in
theorem numCopy_own (s : StT) (O : SlT) (L : Nat → SlT) (cs : Array Value) (w : World) (h : ReadsS w.heap.size w cs s O L) (hn : s.objs.length ≤ 1000000) (hll : ∀ z < 11, (s.lists z).length ≤ 1000000) :
    Calls Tryd.prog 23 #[.agg cs] w fun e w' => ∃ cs', e = .returned (.agg cs') ∧ CopyO w s cs' w' := by
  go_enter Tryd.func23, Tryd.ntmps23
  have hcs := h.cs
  have c0 : cs[0]? = some (.slice O.A O.n O.c) := by rw [hcs]; exact stC_objs _ _ _ _
  have hOn := h.on
  have hO := h.o
  have H := Lib.hid h
  clear h
  obtain ⟨A, n, c⟩ := O
  simp only at c0 hOn hO
  have HC := Lib.hid hcs
  clear hcs
  subst hOn
  go_upto_region 1 with fail
  have hb1 : Below (w.alloc (.cells cs 29)).heap.size (w.alloc (.cells cs 29)) ((w.alloc (.cells cs 29)).alloc (.cells st0 29)) := (Below.refl _ _).alloc (Nat.le_refl _) _
  have hb2 : Below w.heap.size w ((w.alloc (.cells cs 29)).alloc (.cells st0 29)) := keepB hb1 ((Below.refl _ _).alloc (Nat.le_refl _) _)
  have hs1 : StAt ((w.alloc (.cells cs 29)).alloc (.cells st0 29)) w.heap.size cs := (StAt.new w cs).keep hb1
  have hr1 : StAt ((w.alloc (.cells cs 29)).alloc (.cells st0 29)) (w.heap.size + 1) st0 := by
    have h := StAt.new (w.alloc (.cells cs 29)) st0
    simpa using h
  have hz2 : ((w.alloc (.cells cs 29)).alloc (.cells st0 29)).heap.size = w.heap.size + 2 := by simp
  obtain ⟨r, hr⟩ : ∃ r, r = w.heap.size + 1 := ⟨_, rfl⟩
  obtain ⟨w2, hw2⟩ : ∃ w2, w2 = (w.alloc (.cells cs 29)).alloc (.cells st0 29) := ⟨_, rfl⟩
  rw [st0_is]
  rw [← hw2, ← hr] at hr1
  rw [← hw2] at hs1 hb2 hz2
  rw [← hw2, ← hr]
  have hrl : r < w2.heap.size := hr1.lt
  have hrw : w.heap.size < r := by omega
  clear hb1 hw2 hr
  obtain ⟨g, hg⟩ : ∃ g, g = w.heap.size := ⟨_, rfl⟩
  have hwg : w.heap.size ≤ g := by omega
  have hgr : g < r := by omega
  have HZ3 := Lib.hid (show w2.heap.size = r + 1 by omega)
  rw [← hg] at hs1
  rw [← hg]
  clear hg hz2
  have hgl : g < w2.heap.size := by omega
  have c3 := (hs1.cell 0).trans c0
  have hba : Below w2.heap.size w2 (w2.alloc (.cells #[] 37)) := (Below.refl _ _).alloc (Nat.le_refl _) _
  have hO3 := (hO.below hb2).below (hba.mono (by omega))
  have how := obj_empty w2 w2.heap.size (Nat.le_refl _)
  have hsb : w2.heap.size ≤ (w2.alloc (.cells #[] 37)).heap.size := hba.size
  go_upto_region 2 with (at_builtin; refine wpList_appOw rfl _ _ rfl w2.heap.size _ 0 rfl how _ A s.objs.length c s.objs rfl hO3 rfl hn hsb ?_; intro A4 c4 w4 ho4 hg4; have hb4 : Below w2.heap.size w2 w4 := hba.grown hg4 hsb (fun g hh => Nat.le_of_eq (Option.some.inj hh)); have hf4 := frozen_of_row w4 g 0 _ _ (hs1.keep hb4); have hc4 := ((hs1.keep hb4).cell 0).trans c0)
  have HCp := Lib.hid (show CpO w g (r + 1) s L ⟨A4, s.objs.length, c4⟩ L 0 (w4.setCell ⟨g, 0, none⟩ (.slice A4 s.objs.length c4)) from by
    have ha := hs1.keep hb4
    rw [HC.out] at ha
    rw [HZ3.out] at ho4
    exact CpO.start (keepB hb4 hb2) ha hwg (by omega) rfl ho4)
  have HR := Lib.hid (show StAt (w4.setCell ⟨g, 0, none⟩ (.slice A4 s.objs.length c4)) r st0 from (heap_setCell_other w4 ⟨g, 0, none⟩ r _ (by simp; omega)).trans (hr1.keep hb4))
  obtain ⟨w5, hw5⟩ : ∃ w5, w5 = w4.setCell ⟨g, 0, none⟩ (.slice A4 s.objs.length c4) := ⟨_, rfl⟩
  obtain ⟨O4, hO4⟩ : ∃ O4 : SlT, O4 = ⟨A4, s.objs.length, c4⟩ := ⟨_, rfl⟩
  rw [← hw5, ← hO4] at HCp
  rw [← hw5] at HR
  rw [← hw5]
  clear hw5 hO4 hf4 hc4 hb4 hg4 ho4 w4 hba hO3 how hsb c3 hs1 hr1 hb2 hrl hgl HZ3
  go_upto_region 3 with fail
  go_loopw [9] (fun i wr => ∃ (z : Nat) (L4 : Nat → SlT), i = .int .i64 ((z : Nat) : Int) ∧ z ≤ 11 ∧ Hid (CpO w g (r + 1) s L O4 L4 z wr) ∧ Hid (StAt wr r st0)) (fun i _ => 11 - (intOf i).toNat)
  case atStart => exact ⟨0, L, rfl, by omega, HCp, HR⟩
  case round =>
    clear HCp HR
    obtain ⟨z, L4, rfl, hz, HP, HR⟩ := hrel
    by_cases hlt : z < 11
    · have hd : decide ((z : Int) < 11) = true := by simp; omega
      obtain ⟨A2, n2, c2, hls, hN0⟩ : ∃ A2 n2 c2, L z = ⟨A2, n2, c2⟩ ∧ Nums .i64 w w.heap.size A2 n2 (s.lists z) := ⟨_, _, _, rfl, H.out.l z hlt⟩
      have hN := hN0.below HP.out.b
      have hln := hN0.len
      have hnm : n2 ≤ 1000000 := hln ▸ hll z hlt
      have p0 : (0 : Int) ≤ (z : Int) := by omega
      have p1 : (z : Int) < 11 := by omega
      have hg0 := HP.out.a
      have hcz := (hg0.cell (1 + z)).trans (stC_list _ _ _ _ hlt)
      rw [HP.out.r z (Nat.le_refl _), hls] at hcz
      have hcz : wr.cell? ⟨g, 1 + z, none⟩ = some (.slice A2 n2 c2) := hcz
      clear hls
      have hba : Below wr.heap.size wr (wr.alloc (.cells #[] 3)) := (Below.refl _ _).alloc (Nat.le_refl _) _
      have how : Own .i64 3 (wr.alloc (.cells #[] 3)) wr.heap.size (some ⟨wr.heap.size, 0, none⟩) 0 0 [] := own_empty wr wr.heap.size (Nat.le_refl _)
      have hbs : wr.heap.size ≤ (wr.alloc (.cells #[] 3)).heap.size := hba.size
      have hrr := HR.out.lt
      have hgl : g < wr.heap.size := by omega
      have hN2 := hN.below (hba.mono (by omega))
      obtain ⟨i0, hi, hz0, hz1, hz2⟩ := info_parts st_info_int
      clear hN0 hN hrr
      go_wp2_with (at_builtin; refine wpList_app rfl _ _ _ rfl .i64 wr.heap.size 3 i0 _ 8 Tryd.underlying23 hi hz0 hz1 hz2 rfl _ 0 0 [] rfl how w.heap.size A2 n2 c2 (s.lists z) rfl hN2 (by omega) (by omega) hbs ?_; intro A5 c5 w5 ho5 hg5; have hb5 : Below wr.heap.size wr w5 := how.belowGrown hba hbs hg5; have hf5 := frozen_of_row w5 g (1 + z) _ _ (hg0.keep hb5); have hc5 := ((hg0.keep hb5).cell (1 + z)).trans (stC_list _ _ _ _ hlt); rw [Nat.zero_add, List.nil_append] at ho5)
      have HP2 := Lib.hid (show CpO w g (r + 1) s L O4 (updS L4 z ⟨A5, n2, c5⟩) (z + 1) (w5.setCell ⟨g, 1 + z, none⟩ (.slice A5 n2 c5)) from (HP.out.keep hb5).next hlt hwg (by omega) (ho5.base_le (show r + 1 ≤ wr.heap.size by have := HR.out.lt; omega)) (fun y hy j hj h2 => by
        have h3 := (ho5.2.lt j h2).1
        have h4 := ((HP.out.l y hy).2.lt j hj).2
        omega))
      have HR2 := Lib.hid (show StAt (w5.setCell ⟨g, 1 + z, none⟩ (.slice A5 n2 c5)) r st0 from (heap_setCell_other w5 ⟨g, 1 + z, none⟩ r _ (by simp; omega)).trans (HR.out.keep hb5))
      clear hf5 hc5 hb5 hg5 ho5 hi hz0 hz1 hz2 how hba hbs hN2
      go_roundw
      case rel => exact ⟨z + 1, _, by go_num, by omega, HP2, HR2⟩
      case measure => simp [intOf]; omega
    · obtain rfl : z = 11 := by omega
      have hg9 := HP.out.a
      have hr9 := HR.out
      have HZ := Lib.hid (HP.out.copy (show w.heap.size ≤ r by omega) (by omega))
      obtain ⟨cs9, hcs9⟩ : ∃ cs9, cs9 = stC O4 L4 s.pl s.gm := ⟨_, rfl⟩
      have hsz9 : (Tryd.prog.info? 29).map (·.size) = some cs9.size := by rw [hcs9, stC_size]; exact size37
      have hs9 : st0.size = cs9.size := by rw [hcs9, stC_size, show st0.size = 37 from stC_size _ _ _ _]
      have hone9 : cs9.all (·.oneCell') = true := by rw [hcs9]; exact stC_one _ _ _ _
      rw [← hcs9] at HZ hg9
      clear hcs9 HP HR
      go_wp2_with (first
        | (refine wpList_load_row rfl 29 (.tmp 1) rfl g rfl 29 _ (0, 0) _ hg9 Tryd.underlying29 rfl hsz9 ?_)
        | (refine wpList_store_row rfl 29 (.tmp 2) (.tmp 22) rfl r _ rfl rfl 29 st0 hr9 hsz9 hs9 hone9 ?_))
      refine bodyPost_ret (v := .agg cs9) ?_ rfl ⟨cs9, rfl, HZ.out⟩
      exact results_cell_row (ty := 29) (p := 2) (by kernel_rfl) _ _ r 29 _ (0, 0) _ rfl (setRow_heap _ _ _ _ _ _ hr9) Tryd.underlying29 rfl hsz9
end Go.Proofs.YtplfblccaeligaaDoor
