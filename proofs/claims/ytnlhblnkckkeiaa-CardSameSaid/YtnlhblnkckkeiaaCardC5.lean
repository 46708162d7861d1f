/- Layer 7: the contract of card's Copy. -/
import Derived.Test.YtnlhblnkckkeiaaCardMake
namespace Go.Proofs.Ytnlhblnkckkeiaa
open Go.RowKit Ex Mx
structure CcS (w : World) (c : CardT) (P d : Nat) (A : Option Addr) (k cc : Nat) (ts : List AbT) (W : World) : Prop where
  own : OwnA W (P + 1) d A k cc ts
  cd : CdAt W P (cardC c A k cc)
  z : CdAt W (w.heap.size + 1) zeroD
  b : Below w.heap.size w W
theorem CcS.keep {w : World} {c : CardT} {P d : Nat} {A : Option Addr} {k cc : Nat} {ts : List AbT} {W W' : World} (h : CcS w c P d A k cc ts W) (hb : Below W.heap.size W W') : CcS w c P d A k cc ts W' :=
  ⟨h.own.below hb, h.cd.keep hb, h.z.keep hb, keepB hb h.b⟩
theorem CcS.store {w : World} {c : CardT} {P d : Nat} {A A8 : Option Addr} {k cc c8 : Nat} {ts : List AbT} {t : AbT} {W W8 : World} (h : CcS w c P d A k cc ts W) (hP : w.heap.size + 1 < P)
    (ho : OwnA W8 (P + 1) d A8 (k + 1) c8 (ts ++ [t])) (hg : W.grownBy W8 (Value.slice A k cc).ownBlock) :
    CdAt W8 P (cardC c A k cc) ∧ CcS w c P d A8 (k + 1) c8 (ts ++ [t]) (W8.setCell ⟨P, 12, none⟩ (.slice A8 (k + 1) c8)) := by
  have hPl := h.cd.lt
  have hown : ∀ j, j < P + 1 → some j ≠ (Value.slice A k cc).ownBlock := fun j hj e => by have := h.own.ownLt j e.symm; omega
  have hev : CdAt W8 P (cardC c A k cc) := (hg.block P h.cd.lt (hown P (by omega))).trans h.cd
  have hz := (hg.block (w.heap.size + 1) h.z.lt (hown _ (by omega))).trans h.z
  have hbw : Below w.heap.size w W8 := ⟨hg.os.trans h.b.os, hg.tape.trans h.b.tape, hg.output.trans h.b.output, Nat.le_trans h.b.size hg.size, fun j hj => (hg.block j (by have := h.z.lt; omega) (hown j (by omega))).trans (h.b.block j hj)⟩
  refine ⟨hev, ho.same (by simp) (fun b hb _ => heap_setCell_other W8 _ b _ (by simp; omega)), ?_, (heap_setCell_other W8 _ _ _ (by simp; omega)).trans hz, hbw.setCell (by simp; omega) _⟩
  have := heap_setCell_same W8 P 12 _ _ (.slice A8 (k + 1) c8) hev
  rw [cd_set] at this
  exact this
def CpcRel (w : World) (c : CardT) (P d : Nat) (i : Value) (W : World) : Prop :=
  ∃ (k : Nat) (A : Option Addr) (cc : Nat), i = .int .i64 ((k : Nat) : Int) ∧ k ≤ c.abs.length ∧ CcS w c P d A k cc (c.abs.take k) W
set_option linter.unusedSimpArgs false in
set_option maxRecDepth 100000 in
set_option maxHeartbeats 2000000 in
theorem copyC_any (d : Nat) (c : CardT) (cs : Array Value) (w : World) (hr : ReadsC w.heap.size w d cs c) (hs : SmallC c) :
    Calls Try.prog 17 #[.agg cs] w (fun e w' => ∃ d' cs', e = .returned (.agg cs') ∧ ReadsCQ (fun b => w.heap.size ≤ b ∧ b < w'.heap.size) w' d' cs' c ∧ Below w.heap.size w w') := by
  have hcsz := hr.size
  have hc1 := hr.one
  have hsx : (Try.prog.info? 26).map (·.size) = some cs.size := by rw [hcsz]; exact size13
  have HSm := Lib.hid hs
  have hl9 := hs.1
  obtain ⟨i0, i1, i2, i3, i4, i5, A, cc, hcs, hl, hc, hx⟩ := hr
  have HX := Lib.hid hx
  have HCs := Lib.hid hcs
  clear hx hcs hs
  go_enter Try.func17, Try.ntmps17
  go_upto_region 1 with fail
  obtain ⟨w1, hw1⟩ : ∃ w1, w1 = (w.alloc (.cells cs 26)).alloc (.cells zeroD 26) := ⟨_, rfl⟩
  have hE : CdAt w1 w.heap.size cs := by rw [hw1]; exact (CdAt.new w cs).keep ((Below.refl _ _).alloc (Nat.le_refl _) _)
  have hZ : CdAt w1 (w.heap.size + 1) zeroD := by
    have h := CdAt.new (w.alloc (.cells cs 26)) zeroD
    rw [hw1]; simpa using h
  have hb1 : Below w.heap.size w w1 := by rw [hw1]; exact ((Below.refl _ _).alloc (Nat.le_refl _) _).alloc (by simp) _
  rw [← hw1]
  clear hw1
  have hnew : (w1.alloc (.cells zeroD 26)).heap[w1.heap.size]? = some (.cells zeroD 26 (0, 0)) := heap_alloc_new _ _
  go_upto_region 2 with (first
    | (refine wpList_load_row rfl 26 (.tmp 1) rfl w.heap.size rfl 26 _ (0, 0) _ hE Try.underlying26 rfl hsx ?_)
    | (refine wpList_store_row rfl 26 (.tmp 3) (.tmp 6) rfl w1.heap.size _ rfl rfl 26 zeroD hnew hsx (by rw [hcsz]; rfl) hc1 ?_))
  obtain ⟨w2, hw2, hP2, hb2⟩ := cd_box w1 (xs := cs)
  rw [← hw2]
  clear hw2 hnew
  have q1 : w2.cell? ⟨w1.heap.size, 12, none⟩ = some (.slice A c.abs.length cc) := by rw [hP2.cell, HCs.out]; exact cd_abs
  have q2 := frozen_of_row w2 w1.heap.size 12 _ _ hP2
  have hP : w.heap.size + 1 < w1.heap.size := hZ.lt
  have hE2 := hE.keep hb2
  have hZ2 := hZ.keep hb2
  obtain ⟨P, hPe⟩ : ∃ P, P = w1.heap.size := ⟨_, rfl⟩
  rw [← hPe] at q1 q2 hP hP2 ⊢
  clear hPe
  go_upto_region 3 with fail
  obtain ⟨w3, hw3⟩ : ∃ w3, w3 = w2.setCell ⟨P, 12, none⟩ (.slice none 0 0) := ⟨_, rfl⟩
  have HS3 := Lib.hid (show CcS w c P d none 0 0 (c.abs.take 0) w3 by
    rw [hw3]
    refine ⟨OwnA.nil _ _ _, ?_, (heap_setCell_other w2 _ _ _ (by simp; omega)).trans hZ2, (keepB hb2 hb1).setCell (by simp; omega) _⟩
    rw [HCs.out] at hP2
    have := heap_setCell_same w2 P 12 _ _ (.slice none 0 0) hP2
    rw [cd_set] at this
    exact this)
  have c12 : w3.cell? ⟨w.heap.size, 12, none⟩ = some (.slice A c.abs.length cc) := by
    have hE3 : CdAt w3 w.heap.size cs := by rw [hw3]; exact (heap_setCell_other w2 _ _ _ (by simp; omega)).trans hE2
    rw [hE3.cell, HCs.out]; exact cd_abs
  rw [← hw3]
  clear hw3 q1 q2 hE hZ hE2 hZ2 hP2 hb1 hb2
  go_upto_region 4 with fail
  clear c12
  go_loopw [11] (fun i wr => CpcRel w c P d i wr) (fun i _ => c.abs.length - (intOf i).toNat)
  case atStart => exact ⟨0, none, 0, rfl, by omega, HS3.out⟩
  case round =>
    obtain ⟨k, A4, c4, rfl, hk, hS⟩ := hrel
    have HS := Lib.hid hS
    clear hS HS3
    by_cases hlt : k < c.abs.length
    · obtain ⟨a, ha⟩ : ∃ a, c.abs[k]? = some a := ⟨_, List.getElem?_eq_getElem hlt⟩
      have hb := HS.out.b
      obtain ⟨b, o, ys, rfl, hbb, hrg, hra⟩ := HX.out.grow hb k a ha
      have hsz := HSm.out.2 k a ha
      have HTk := Lib.hid (show c.abs.take (k + 1) = c.abs.take k ++ [a] by rw [List.take_add_one, ha]; rfl)
      have hd : decide ((k : Int) < (c.abs.length : Int)) = true := by simp; omega
      have hk1000 : k ≤ 1000 := by omega
      go_upto_region 5 with fail
      have hys := hra.size
      have hy1 := hra.one
      have hsy : (Try.prog.info? 44).map (·.size) = some ys.size := by rw [hys]; exact size14
      have hraw := hrg
      have hnew : (wr.alloc (.cells zeroA 44)).heap[wr.heap.size]? = some (.cells zeroA 44 (0, 0)) := heap_alloc_new _ _
      go_upto_region 6 with (first
        | (refine load_ab rfl (.tmp 13) rfl b (o + k * 14) rfl ys hys hraw ?_)
        | (refine wpList_store_row rfl 44 (.tmp 5) (.tmp 14) rfl wr.heap.size _ rfl rfl 44 zeroA hnew hsy (by rw [hys]; rfl) hy1 ?_))
      obtain ⟨wn, hwn, hAn, hbn⟩ := ab_box wr (xs := ys)
      have hran := hra.grow hbn
      have hbwn := keepB hbn hb
      rw [← hwn]
      clear hwn hnew hraw hy1
      obtain ⟨j0, j1, j2, xs, hye, hrx⟩ := hran
      subst hye
      have hxs := hrx.size
      have hdo := hAn.do_
      have hPg : P < wr.heap.size := HS.out.cd.lt
      have hgn := hAn.lt
      obtain ⟨gn, hgne⟩ : ∃ g, g = wr.heap.size := ⟨_, rfl⟩
      rw [← hgne] at hAn hPg hdo hgn ⊢
      have HGn := Lib.hid hgne
      clear hgne
      go_wp2_with (refine wantDo (by rfl) (.tmp 15) rfl gn 9 rfl xs hxs hdo ?_)
      refine (copy_any d a.do_ xs wn hrx (by omega)).mono ?_
      rintro e w5 ⟨cs5, rfl, hr5, hb5⟩
      have hs5 := hr5.size
      have h15 : cs5.all (·.oneCell') = true := Array.all_eq_true_iff_forall_mem.2 (fun u hu => hr5.one u (by simpa using hu))
      have hsx5 : (Try.prog.info? 42).map (·.size) = some cs5.size := by rw [hs5]; exact size5
      have hA5 := hAn.keep hb5
      have hth : w5.there gn 9 cs5.size := by rw [hs5]; exact ab_there hA5 hxs
      have hb5r : Below wr.heap.size wr w5 := keepB hb5 hbn
      go_upto_region 7 with (refine wpList_store_mid rfl 42 (.tmp 18) (.tmp 17) rfl gn 9 cs5 rfl rfl hth hsx5 h15 ?_)
      obtain ⟨w6, hw6⟩ : ∃ w6, w6 = w5.setCells gn 9 cs5.toList := ⟨_, rfl⟩
      have hA6 : AbAt w6 gn (abC a cs5) := by rw [hw6]; exact ab_store hA5 hxs hs5
      have hb6 : Below wr.heap.size wr w6 := by rw [hw6]; exact below_setCells (by have := HGn.out; omega) _ _ _ _ hb5r
      have hz6 : w6.heap.size = w5.heap.size := by rw [hw6]; exact setCells_size _ _ _
      have hr6 : ReadsAQ (fun b => P + 1 ≤ b ∧ b < w6.heap.size ∧ some b ≠ (Value.slice A4 k c4).ownBlock) w6 d (abC a cs5) a :=
        ⟨j0, j1, j2, cs5, rfl, hr5.keep (fun b hq => by rw [hw6]; exact setCells_other (by omega) _ _ _) (fun b hq => ⟨by have := HGn.out; omega, by omega, fun e => by have := HS.out.own.ownTop b e.symm; have := HGn.out; omega⟩)⟩
      have hS6 := HS.out.keep hb6
      have hab14 := hr6.size
      have hsy6 : (Try.prog.info? 44).map (·.size) = some (abC a cs5).size := by rw [hab14]; exact size14
      have q0 : w6.cell? ⟨P, 12, none⟩ = some (.slice A4 k c4) := by rw [hS6.cd.cell]; exact cd_abs
      have hb7 : Below w6.heap.size w6 (w6.alloc (.cells (abC a cs5) 44)) := (Below.refl _ _).alloc (Nat.le_refl _) _
      have hX7 : AbAt (w6.alloc (.cells (abC a cs5) 44)) w6.heap.size (abC a cs5) := AbAt.new _ _
      have hS7 := hS6.keep hb7
      have hr7 := hr6.keep (Q' := fun b => P + 1 ≤ b ∧ b < (w6.alloc (.cells (abC a cs5) 44)).heap.size ∧ some b ≠ (Value.slice A4 k c4).ownBlock) (fun b hq => hb7.block b hq.2.1) (fun b hq => ⟨hq.1, by have := hb7.size; omega, hq.2.2⟩)
      rw [← hw6]
      clear hw6 hA5 hth hr5 hdo hAn hrx hra hrg hb5 hb5r hbn hb hz6 h15 hsx5 hS6 hr6
      go_wp2_with (first
        | (refine wpList_load_row rfl 44 (.tmp 5) rfl gn rfl 44 _ (0, 0) _ hA6 Try.underlying44 rfl hsy6 ?_)
        | (refine wpList_buildSlice_ab rfl (.tmp 21) rfl (abC a cs5) hab14 rfl ?_)
        | (at_builtin; refine wpList_appA rfl (.tmp 20) (.tmp 22) rfl (P + 1) d A4 k c4 (c.abs.take k) rfl hS7.own w6.heap.size 1 (abC a cs5) rfl hX7 a hr7 hk1000 (by have := hS7.cd.lt; omega) ?_; intro A8 c8 w8 hO8 hg8
           obtain ⟨hev8, hfin⟩ := hS7.store hP hO8 hg8
           have q1 : w8.cell? ⟨P, 12, none⟩ = some (.slice A4 k c4) := by rw [hev8.cell]; exact cd_abs
           have q2 := frozen_of_row w8 P 12 _ _ hev8
           rw [← HTk.out] at hfin
           have HFin := Lib.hid hfin
           clear hfin hev8 hO8 hg8))
      go_roundw
      case rel => exact ⟨k + 1, A8, c8, by go_num, by omega, HFin.out⟩
      case measure => simp [intOf]; omega
    · obtain rfl : k = c.abs.length := by omega
      have hd : decide ((c.abs.length : Int) < (c.abs.length : Int)) = false := by simp
      rw [List.take_length] at HS
      have hwi := HS.out.own.within (B := wr.heap.size) (Nat.le_refl _)
      have hR := Lib.hid (show ReadsCQ (fun b => P ≤ b ∧ b < wr.heap.size) wr d (cardC c A4 c.abs.length c4) c from
        ⟨i0, i1, i2, i3, i4, i5, A4, c4, rfl, hwi.1, hwi.2.1, hwi.2.2.keep (fun _ _ => rfl) (fun b hq => ⟨by omega, hq.2⟩)⟩)
      obtain ⟨cs9, hcs9⟩ : ∃ cs, cs = cardC c A4 c.abs.length c4 := ⟨_, rfl⟩
      have hP9 := HS.out.cd
      have hz9 := HS.out.z
      have hb9 := HS.out.b
      rw [← hcs9] at hP9 hR
      have h19 : cs9.all (·.oneCell') = true := by
        have h2 := arr_one .i64 6 c.cost
        rw [hcs9]; simp only [cardC, Array.all_append, h2]; simp [Value.oneCell']
      have hs9 : cs9.size = 13 := by rw [hcs9]; simp [cardC, arr_size]
      have hsx9 : (Try.prog.info? 26).map (·.size) = some cs9.size := by rw [hs9]; exact size13
      clear hcs9 hwi
      go_wp2_with (first
        | (refine wpList_load_row rfl 26 (.tmp 3) rfl P rfl 26 _ (0, 0) _ hP9 Try.underlying26 rfl hsx9 ?_)
        | (refine wpList_store_row rfl 26 (.tmp 2) (.tmp 26) rfl (w.heap.size + 1) _ rfl rfl 26 zeroD hz9 hsx9 (by rw [hs9]; rfl) h19 ?_))
      refine bodyPost_ret (v := .agg cs9) ?_ rfl ⟨d, cs9, rfl, hR.out.keep (fun b hq => setRow_other wr _ b _ (by omega)) (fun b hq => ⟨by omega, by simp; exact hq.2⟩), below_setRow hb9 _ _ (by omega)⟩
      exact results_cell_one (ty := 26) (p := 2) (by kernel_rfl) _ _ (w.heap.size + 1) 26 _ (0, 0) _ rfl (setRow_heap _ _ _ _ _ _ hz9) Try.underlying26 rfl hsx9
end Go.Proofs.Ytnlhblnkckkeiaa
