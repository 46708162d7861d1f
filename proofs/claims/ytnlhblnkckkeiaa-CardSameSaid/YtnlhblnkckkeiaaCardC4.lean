/- Layer 7: contracts of card's sameAbility, of slices.EqualFunc over it, and of Same. -/
import Derived.Test.YtnlhblnkckkeiaaCardCards
import Derived.Test.YtnlhblnkckkeiaaTreeC5
namespace Go.Proofs.Ytnlhblnkckkeiaa
open Go.RowKit Ex Mx
theorem cost_eql (f g : Nat → Int) (W : World) : (binOp .eql 23 (.agg (arr .i64 6 f)) (.agg (arr .i64 6 g))).run Try.prog W = .ok (.bool (sameI 6 f g)) W :=
  run_eql_arr W 23 3 .i64 6 Try.underlying23 Try.underlying3 (fun _ => by kernel_rfl) f g
set_option linter.unusedSimpArgs false in
set_option maxRecDepth 100000 in
set_option maxHeartbeats 4000000 in
theorem sameAb_any (d d' : Nat) (a a' : AbT) (cs cs' : Array Value) (w : World) (hr : ReadsA w.heap.size w d cs a) (hr' : ReadsA w.heap.size w d' cs' a') (hs : sizeT a.do_ ≤ 300) :
    Calls Try.prog 32 #[.agg cs, .agg cs'] w fun e w' => e = .returned (.bool (sameA a a')) ∧ Below w.heap.size w w' := by
  obtain ⟨_, _, _, xs, rfl, hrx⟩ := hr
  obtain ⟨_, _, _, xs', rfl, hrx'⟩ := hr'
  obtain ⟨q, hq⟩ : ∃ q, q = sameA a a' := ⟨_, rfl⟩
  rw [← hq]
  go_enter Try.func32, Try.ntmps32
  go_upto_region 1 with fail
  obtain ⟨w1, hw1⟩ : ∃ w1, w1 = (w.alloc (.cells (abC a xs) 44)).alloc (.cells (abC a' xs') 44) := ⟨_, rfl⟩
  have hA : AbAt w1 w.heap.size (abC a xs) := by rw [hw1]; exact (AbAt.new w (abC a xs)).keep ((Below.refl _ _).alloc (Nat.le_refl _) _)
  have hA' : AbAt w1 (w.heap.size + 1) (abC a' xs') := by
    have h := AbAt.new (w.alloc (.cells (abC a xs) 44)) (abC a' xs')
    rw [hw1]; simpa using h
  have hb1 : Below w.heap.size w w1 := by rw [hw1]; exact ((Below.refl _ _).alloc (Nat.le_refl _) _).alloc (by simp) _
  rw [← hw1]
  clear hw1
  have p0 : w1.cell? ⟨w.heap.size, 0, none⟩ = some (.int .i64 a.when_) := by rw [hA.cell]; exact ab_when
  have r0 : w1.cell? ⟨w.heap.size + 1, 0, none⟩ = some (.int .i64 a'.when_) := by rw [hA'.cell]; exact ab_when
  have p7 : w1.cell? ⟨w.heap.size, 7, none⟩ = some (.bool a.tap) := by rw [hA.cell]; exact ab_tap
  have r7 : w1.cell? ⟨w.heap.size + 1, 7, none⟩ = some (.bool a'.tap) := by rw [hA'.cell]; exact ab_tap
  have p8 : w1.cell? ⟨w.heap.size, 8, none⟩ = some (.int .i64 a.target) := by rw [hA.cell]; exact ab_target
  have r8 : w1.cell? ⟨w.heap.size + 1, 8, none⟩ = some (.int .i64 a'.target) := by rw [hA'.cell]; exact ab_target
  have hct := hA.cost
  have hct' := hA'.cost
  have hdo := hA.do_
  have hdo' := hA'.do_
  have hne := cost_eql a.cost a'.cost
  rw [arr6, arr6] at hne
  rw [arr6] at hct hct'
  have y0 : w1.cell? ⟨w.heap.size, 1, none⟩ = some (.int .i64 (a.cost 0)) := hct 0 _ rfl
  have z0 : w1.cell? ⟨w.heap.size + 1, 1, none⟩ = some (.int .i64 (a'.cost 0)) := hct' 0 _ rfl
  have y1 : w1.cell? ⟨w.heap.size, 2, none⟩ = some (.int .i64 (a.cost 1)) := hct 1 _ rfl
  have z1 : w1.cell? ⟨w.heap.size + 1, 2, none⟩ = some (.int .i64 (a'.cost 1)) := hct' 1 _ rfl
  have y2 : w1.cell? ⟨w.heap.size, 3, none⟩ = some (.int .i64 (a.cost 2)) := hct 2 _ rfl
  have z2 : w1.cell? ⟨w.heap.size + 1, 3, none⟩ = some (.int .i64 (a'.cost 2)) := hct' 2 _ rfl
  have y3 : w1.cell? ⟨w.heap.size, 4, none⟩ = some (.int .i64 (a.cost 3)) := hct 3 _ rfl
  have z3 : w1.cell? ⟨w.heap.size + 1, 4, none⟩ = some (.int .i64 (a'.cost 3)) := hct' 3 _ rfl
  have y4 : w1.cell? ⟨w.heap.size, 5, none⟩ = some (.int .i64 (a.cost 4)) := hct 4 _ rfl
  have z4 : w1.cell? ⟨w.heap.size + 1, 5, none⟩ = some (.int .i64 (a'.cost 4)) := hct' 4 _ rfl
  have y5 : w1.cell? ⟨w.heap.size, 6, none⟩ = some (.int .i64 (a.cost 5)) := hct 5 _ rfl
  have z5 : w1.cell? ⟨w.heap.size + 1, 6, none⟩ = some (.int .i64 (a'.cost 5)) := hct' 5 _ rfl
  obtain ⟨Ax, cx, hxe, _, _⟩ := hrx.shape
  obtain ⟨Ax', cx', hxe', _, _⟩ := hrx'.shape
  have hcall := same_any d a.do_ a'.do_ xs xs' d' w1 (hrx.grow hb1) (hrx'.grow hb1) (by omega)
  rw [hxe] at hdo hcall
  rw [hxe'] at hdo' hcall
  have u0 : w1.cell? ⟨w.heap.size, 9, none⟩ = some (.int .i64 a.do_.op) := hdo 0 _ rfl
  have v0 : w1.cell? ⟨w.heap.size + 1, 9, none⟩ = some (.int .i64 a'.do_.op) := hdo' 0 _ rfl
  have u1 : w1.cell? ⟨w.heap.size, 10, none⟩ = some (.int .i64 a.do_.n) := hdo 1 _ rfl
  have v1 : w1.cell? ⟨w.heap.size + 1, 10, none⟩ = some (.int .i64 a'.do_.n) := hdo' 1 _ rfl
  have u2 : w1.cell? ⟨w.heap.size, 11, none⟩ = some (.int .i64 a.do_.m) := hdo 2 _ rfl
  have v2 : w1.cell? ⟨w.heap.size + 1, 11, none⟩ = some (.int .i64 a'.do_.m) := hdo' 2 _ rfl
  have u3 : w1.cell? ⟨w.heap.size, 12, none⟩ = some (.int .i64 a.do_.who) := hdo 3 _ rfl
  have v3 : w1.cell? ⟨w.heap.size + 1, 12, none⟩ = some (.int .i64 a'.do_.who) := hdo' 3 _ rfl
  have u4 : w1.cell? ⟨w.heap.size, 13, none⟩ = some (.slice Ax a.do_.subs.length cx) := hdo 4 _ rfl
  have v4 : w1.cell? ⟨w.heap.size + 1, 13, none⟩ = some (.slice Ax' a'.do_.subs.length cx') := hdo' 4 _ rfl
  have hcall := Lib.hid hcall
  clear hct hct' hdo hdo' hrx hrx' hxe hxe'
  clear hA hA'
  by_cases q0 : a.when_ = a'.when_
  case neg =>
    have e0 : (a.when_ == a'.when_) = false := by simpa using q0
    have HQ := Lib.hid (show q = false by rw [hq]; unfold sameA; simp [q0])
    clear q0 hq
    go_wp2_with fail
    all_goals go_ret
    all_goals exact ⟨by rw [HQ.out]; rfl, hb1⟩
  have e0 : (a.when_ == a'.when_) = true := by simpa using q0
  obtain ⟨S, hS⟩ : ∃ S, S = sameI 6 a.cost a'.cost := ⟨_, rfl⟩
  rw [← hS] at hne
  cases S
  case false =>
    have HQ := Lib.hid (show q = false by rw [hq]; unfold sameA; rw [← hS]; simp)
    clear hS q0 hq
    go_wp2_with fail
    all_goals go_ret
    all_goals exact ⟨by rw [HQ.out]; rfl, hb1⟩
  obtain ⟨F, hF⟩ : ∃ F, F = a.tap := ⟨_, rfl⟩
  obtain ⟨F', hF'⟩ : ∃ F, F = a'.tap := ⟨_, rfl⟩
  rw [← hF] at p7
  rw [← hF'] at r7
  by_cases q2 : F = F'
  case neg =>
    have HQ := Lib.hid (show q = false by rw [hq]; unfold sameA; rw [← hF, ← hF']; simp [q2])
    clear hF hF' hS q0 hq
    cases F <;> cases F'
    all_goals first
      | exact absurd rfl q2
      | skip
    all_goals clear q2
    all_goals go_wp2_with fail
    all_goals go_ret
    all_goals exact ⟨by rw [HQ.out]; rfl, hb1⟩
  subst q2
  have HF1 := Lib.hid (hF.symm.trans hF')
  clear hF hF'
  by_cases q3 : a.target = a'.target
  case neg =>
    have e3 : (a.target == a'.target) = false := by simpa using q3
    have HQ := Lib.hid (show q = false by rw [hq]; unfold sameA; simp [q3])
    clear q3 hS q0 hq
    go_wp2_with fail
    all_goals go_ret
    all_goals exact ⟨by rw [HQ.out]; rfl, hb1⟩
  have e3 : (a.target == a'.target) = true := by simpa using q3
  have HQ := Lib.hid (show q = sameT a.do_ a'.do_ by rw [hq]; unfold sameA; rw [HF1.out, ← hS]; simp [q0, q3])
  clear q0 q3 hS hq
  go_wp2_with fail
  refine hcall.out.mono ?_
  rintro e w4 ⟨rfl, hb4⟩
  obtain ⟨v, hv⟩ : ∃ v, v = sameT a.do_ a'.do_ := ⟨_, rfl⟩
  rw [← hv] at HQ ⊢
  clear hv hcall hne y0 y1 y2 y3 y4 y5 z0 z1 z2 z3 z4 z5 u0 u1 u2 u3 u4 v0 v1 v2 v3 v4
  go_wp2_with fail
  go_ret
  exact ⟨by rw [HQ.out]; rfl, keepB hb4 hb1⟩
def EqaRel (w : World) (l l' : List AbT) (i : Value) (wr : World) : Prop :=
  ∃ k : Nat, i = .int .i64 ((k : Nat) : Int) ∧ k ≤ l.length ∧ sameAs (l.take k) (l'.take k) = true ∧ Below w.heap.size w wr
set_option linter.unusedSimpArgs false in
set_option maxRecDepth 100000 in
set_option maxHeartbeats 1000000 in
theorem equalAbs_any (d d' : Nat) (l l' : List AbT) (A A' : Option Addr) (c c' : Nat) (w : World) (hx : RdA w.heap.size w d A l) (hx' : RdA w.heap.size w d' A' l') (hl : l.length ≤ 1000) (hs : ∀ (i : Nat) (a : AbT), l[i]? = some a → sizeT a.do_ ≤ 300) :
    Calls Try.prog 31 #[.slice A l.length c, .slice A' l'.length c', .func (Fn.func 32) #[] #[]] w fun e w' => e = .returned (.bool (l.length == l'.length && sameAs l l')) ∧ Below w.heap.size w w' := by
  have HX := Lib.hid hx
  have HX' := Lib.hid hx'
  have HSz := Lib.hid hs
  clear hx hx' hs
  by_cases e4 : l.length = l'.length
  · have HS := Lib.hid (show (l.length == l'.length && sameAs l l') = sameAs l l' by simp [e4])
    have f4 : ((l.length : Int) != (l'.length : Int)) = false := by simp [e4]
    have HE4 := Lib.hid e4
    clear e4
    go_enter Try.func31, Try.ntmps31
    go_upto_region 4 with fail
    go_loopw [17] (fun i wr => EqaRel w l l' i wr) (fun i _ => l.length - (intOf i).toNat)
    case atStart => exact ⟨0, rfl, by omega, by simp [sameAs], Below.refl _ _⟩
    case round =>
      obtain ⟨k, rfl, hk, hsm, hb⟩ := hrel
      have Hs := Lib.hid hsm
      clear hsm
      clear f4
      by_cases hlt : k < l.length
      · have hlt' : k < l'.length := by have := HE4.out; omega
        obtain ⟨t, ht⟩ : ∃ t, l[k]? = some t := ⟨_, List.getElem?_eq_getElem hlt⟩
        obtain ⟨t', ht'⟩ : ∃ t', l'[k]? = some t' := ⟨_, List.getElem?_eq_getElem hlt'⟩
        obtain ⟨b, o, xs, rfl, hbb, hra, hrx⟩ := HX.out.grow hb k t ht
        obtain ⟨b', o', xs', rfl, hbb', hra', hrx'⟩ := HX'.out.grow hb k t' ht'
        have hts := HSz.out k t ht
        have HTk := Lib.hid (sameAs_take l l' k t t' ht ht')
        have HNo := Lib.hid (sameAs_no l l' k t t' ht ht')
        have hd : decide ((k : Int) < (l.length : Int)) = true := by simp; omega
        have hkr : k < 1000 := by omega
        have g0 : (0 : Int) ≤ (k : Int) := by omega
        have g1 : (k : Int) < (l.length : Int) := by omega
        have g2 : (k : Int) < (l'.length : Int) := by omega
        clear hlt'
        go_upto_region 5 with fail
        have hz1 := hrx.size
        have ho1 := hrx.one
        have hs1 : (Try.prog.info? 44).map (·.size) = some xs.size := by rw [hz1]; exact size14
        have hraw := hra
        have hnew : (wr.alloc (.cells zeroA 44)).heap[wr.heap.size]? = some (.cells zeroA 44 (0, 0)) := heap_alloc_new _ _
        go_upto_region 6 with (first
          | (refine load_ab rfl (.tmp 20) rfl b (o + k * 14) rfl xs hz1 hraw ?_)
          | (refine wpList_store_row rfl 44 (.tmp 8) (.tmp 21) rfl wr.heap.size _ rfl rfl 44 zeroA hnew hs1 (by rw [hz1]; rfl) ho1 ?_))
        obtain ⟨w2, hwn, hE2, hb2⟩ := ab_box wr (xs := xs)
        rw [← hwn]
        clear hwn hnew hraw ho1
        have hz2 := hrx'.size
        have ho2 := hrx'.one
        have hs2 : (Try.prog.info? 44).map (·.size) = some xs'.size := by rw [hz2]; exact size14
        have hraw := (rangeAt_below hb2 hbb' hra')
        have hnew : (w2.alloc (.cells zeroA 44)).heap[w2.heap.size]? = some (.cells zeroA 44 (0, 0)) := heap_alloc_new _ _
        go_upto_region 7 with (first
          | (refine load_ab rfl (.tmp 24) rfl b' (o' + k * 14) rfl xs' hz2 hraw ?_)
          | (refine wpList_store_row rfl 44 (.tmp 9) (.tmp 25) rfl w2.heap.size _ rfl rfl 44 zeroA hnew hs2 (by rw [hz2]; rfl) ho2 ?_))
        obtain ⟨w3, hwn, hE3, hb3⟩ := ab_box w2 (xs := xs')
        rw [← hwn]
        clear hwn hnew hraw ho2
        have hE23 := hE2.keep hb3
        have hbw := keepB hb3 hb2
        go_wp2_with (first
          | (refine wpList_load_row rfl 44 (.tmp 8) rfl wr.heap.size rfl 44 _ (0, 0) _ hE23 Try.underlying44 rfl hs1 ?_)
          | (refine wpList_load_row rfl 44 (.tmp 9) rfl w2.heap.size rfl 44 _ (0, 0) _ hE3 Try.underlying44 rfl hs2 ?_))
        refine (sameAb_any d d' t t' xs xs' w3 (hrx.grow hbw) (hrx'.grow hbw) hts).mono ?_
        rintro e w4 ⟨rfl, hb4⟩
        have hbw4 := keepB hb4 (keepB hbw hb)
        obtain ⟨v, hv⟩ : ∃ v, v = sameA t t' := ⟨_, rfl⟩
        rw [← hv] at HTk HNo ⊢
        clear hv hE2 hE3 hE23 hb2 hb3 hb4 hbw hd hra hra' hrx hrx'
        cases v with
        | true =>
          go_wp2_with fail
          go_roundw
          case rel => exact ⟨k + 1, by go_num, by omega, by rw [HTk.out, Hs.out]; rfl, hbw4⟩
          case measure => simp [intOf]; omega
        | false =>
          have HF := Lib.hid (HS.out.trans (HNo.out rfl))
          go_wp2_with fail
          go_ret
          exact ⟨by rw [HF.out]; rfl, hbw4⟩
      · obtain rfl : k = l.length := by omega
        have hd : decide ((l.length : Int) < (l.length : Int)) = false := by simp
        have hz : sameAs l l' = true := by
          have h := Hs.out
          rw [List.take_length, HE4.out, List.take_length] at h
          exact h
        have HF := Lib.hid (HS.out.trans hz)
        clear hz
        go_wp2_with fail
        go_ret
        exact ⟨by rw [HF.out]; rfl, hb⟩
  · have HS := Lib.hid (show (l.length == l'.length && sameAs l l') = false by simp [e4])
    have f4 : ((l.length : Int) != (l'.length : Int)) = true := by simp; omega
    clear e4
    go_enter Try.func31, Try.ntmps31
    go_wp2_with fail
    go_ret
    exact ⟨by rw [HS.out]; rfl, Below.refl _ _⟩
set_option linter.unusedSimpArgs false in
set_option maxRecDepth 100000 in
set_option maxHeartbeats 4000000 in
theorem sameC_any (d d' : Nat) (c c' : CardT) (cs cs' : Array Value) (w : World) (hr : ReadsC w.heap.size w d cs c) (hr' : ReadsC w.heap.size w d' cs' c') (hs : SmallC c) :
    Calls Try.prog 18 #[.agg cs, .agg cs'] w fun e w' => e = .returned (.bool (sameC c c')) ∧ Below w.heap.size w w' := by
  obtain ⟨_, _, _, _, _, _, A, cc, hcs, hl, hc, hx⟩ := hr
  obtain ⟨_, _, _, _, _, _, A', cc', hcs', hl', hc', hx'⟩ := hr'
  have HX := Lib.hid hx
  have HX' := Lib.hid hx'
  have HCs := Lib.hid hcs
  have HCs' := Lib.hid hcs'
  have HSm := Lib.hid hs
  have hl9 := hs.1
  clear hx hx' hcs hcs' hs
  obtain ⟨q, hq⟩ : ∃ q, q = sameC c c' := ⟨_, rfl⟩
  rw [← hq]
  go_enter Try.func18, Try.ntmps18
  go_upto_region 1 with fail
  obtain ⟨w1, hw1⟩ : ∃ w1, w1 = (w.alloc (.cells cs 26)).alloc (.cells cs' 26) := ⟨_, rfl⟩
  have hE : CdAt w1 w.heap.size cs := by rw [hw1]; exact (CdAt.new w cs).keep ((Below.refl _ _).alloc (Nat.le_refl _) _)
  have hE' : CdAt w1 (w.heap.size + 1) cs' := by
    have h := CdAt.new (w.alloc (.cells cs 26)) cs'
    rw [hw1]; simpa using h
  have hb1 : Below w.heap.size w w1 := by rw [hw1]; exact ((Below.refl _ _).alloc (Nat.le_refl _) _).alloc (by simp) _
  rw [← hw1]
  clear hw1
  have c0 : w1.cell? ⟨w.heap.size, 0, none⟩ = some (.int .i64 c.kind) := by rw [hE.cell, HCs.out]; exact cd_kind
  have k0 : w1.cell? ⟨w.heap.size + 1, 0, none⟩ = some (.int .i64 c'.kind) := by rw [hE'.cell, HCs'.out]; exact cd_kind
  have c1 : w1.cell? ⟨w.heap.size, 1, none⟩ = some (.int .i64 c.colour) := by rw [hE.cell, HCs.out]; exact cd_colour
  have k1 : w1.cell? ⟨w.heap.size + 1, 1, none⟩ = some (.int .i64 c'.colour) := by rw [hE'.cell, HCs'.out]; exact cd_colour
  have c2 : w1.cell? ⟨w.heap.size, 2, none⟩ = some (.bool c.fast) := by rw [hE.cell, HCs.out]; exact cd_fast
  have k2 : w1.cell? ⟨w.heap.size + 1, 2, none⟩ = some (.bool c'.fast) := by rw [hE'.cell, HCs'.out]; exact cd_fast
  have c9 : w1.cell? ⟨w.heap.size, 9, none⟩ = some (.int .i64 c.power) := by rw [hE.cell, HCs.out]; exact cd_power
  have k9 : w1.cell? ⟨w.heap.size + 1, 9, none⟩ = some (.int .i64 c'.power) := by rw [hE'.cell, HCs'.out]; exact cd_power
  have c10 : w1.cell? ⟨w.heap.size, 10, none⟩ = some (.int .i64 c.tough) := by rw [hE.cell, HCs.out]; exact cd_tough
  have k10 : w1.cell? ⟨w.heap.size + 1, 10, none⟩ = some (.int .i64 c'.tough) := by rw [hE'.cell, HCs'.out]; exact cd_tough
  have c11 : w1.cell? ⟨w.heap.size, 11, none⟩ = some (.int .i64 c.says) := by rw [hE.cell, HCs.out]; exact cd_says
  have k11 : w1.cell? ⟨w.heap.size + 1, 11, none⟩ = some (.int .i64 c'.says) := by rw [hE'.cell, HCs'.out]; exact cd_says
  have c12 : w1.cell? ⟨w.heap.size, 12, none⟩ = some (.slice A c.abs.length cc) := by rw [hE.cell, HCs.out]; exact cd_abs
  have k12 : w1.cell? ⟨w.heap.size + 1, 12, none⟩ = some (.slice A' c'.abs.length cc') := by rw [hE'.cell, HCs'.out]; exact cd_abs
  have hct := (show CdAt w1 w.heap.size (cardC c A c.abs.length cc) by rw [← HCs.out]; exact hE).cost
  have hct' := (show CdAt w1 (w.heap.size + 1) (cardC c' A' c'.abs.length cc') by rw [← HCs'.out]; exact hE').cost
  have hne := cost_eql c.cost c'.cost
  rw [arr6, arr6] at hne
  rw [arr6] at hct hct'
  have y0 : w1.cell? ⟨w.heap.size, 3, none⟩ = some (.int .i64 (c.cost 0)) := hct 0 _ rfl
  have z0 : w1.cell? ⟨w.heap.size + 1, 3, none⟩ = some (.int .i64 (c'.cost 0)) := hct' 0 _ rfl
  have y1 : w1.cell? ⟨w.heap.size, 4, none⟩ = some (.int .i64 (c.cost 1)) := hct 1 _ rfl
  have z1 : w1.cell? ⟨w.heap.size + 1, 4, none⟩ = some (.int .i64 (c'.cost 1)) := hct' 1 _ rfl
  have y2 : w1.cell? ⟨w.heap.size, 5, none⟩ = some (.int .i64 (c.cost 2)) := hct 2 _ rfl
  have z2 : w1.cell? ⟨w.heap.size + 1, 5, none⟩ = some (.int .i64 (c'.cost 2)) := hct' 2 _ rfl
  have y3 : w1.cell? ⟨w.heap.size, 6, none⟩ = some (.int .i64 (c.cost 3)) := hct 3 _ rfl
  have z3 : w1.cell? ⟨w.heap.size + 1, 6, none⟩ = some (.int .i64 (c'.cost 3)) := hct' 3 _ rfl
  have y4 : w1.cell? ⟨w.heap.size, 7, none⟩ = some (.int .i64 (c.cost 4)) := hct 4 _ rfl
  have z4 : w1.cell? ⟨w.heap.size + 1, 7, none⟩ = some (.int .i64 (c'.cost 4)) := hct' 4 _ rfl
  have y5 : w1.cell? ⟨w.heap.size, 8, none⟩ = some (.int .i64 (c.cost 5)) := hct 5 _ rfl
  have z5 : w1.cell? ⟨w.heap.size + 1, 8, none⟩ = some (.int .i64 (c'.cost 5)) := hct' 5 _ rfl
  clear hct hct' hE hE'
  by_cases q0 : c.kind = c'.kind
  case neg =>
    have e0 : (c.kind == c'.kind) = false := by simpa using q0
    have HQ := Lib.hid (show q = false by rw [hq]; unfold sameC; simp [q0])
    clear q0 hq
    go_wp2_with fail
    all_goals go_ret
    all_goals exact ⟨by rw [HQ.out]; rfl, hb1⟩
  have e0 : (c.kind == c'.kind) = true := by simpa using q0
  by_cases q1 : c.colour = c'.colour
  case neg =>
    have e1 : (c.colour == c'.colour) = false := by simpa using q1
    have HQ := Lib.hid (show q = false by rw [hq]; unfold sameC; simp [q1])
    clear q0 q1 hq
    go_wp2_with fail
    all_goals go_ret
    all_goals exact ⟨by rw [HQ.out]; rfl, hb1⟩
  have e1 : (c.colour == c'.colour) = true := by simpa using q1
  obtain ⟨F, hF⟩ : ∃ F, F = c.fast := ⟨_, rfl⟩
  obtain ⟨F', hF'⟩ : ∃ F, F = c'.fast := ⟨_, rfl⟩
  rw [← hF] at c2
  rw [← hF'] at k2
  by_cases q2 : F = F'
  case neg =>
    have HQ := Lib.hid (show q = false by rw [hq]; unfold sameC; rw [← hF, ← hF']; simp [q2])
    clear hF hF' hq q0 q1
    cases F <;> cases F'
    all_goals first
      | exact absurd rfl q2
      | skip
    all_goals clear q2
    all_goals go_wp2_with fail
    all_goals go_ret
    all_goals exact ⟨by rw [HQ.out]; rfl, hb1⟩
  subst q2
  have HF1 := Lib.hid (hF.symm.trans hF')
  clear hF hF'
  obtain ⟨S, hS⟩ : ∃ S, S = sameI 6 c.cost c'.cost := ⟨_, rfl⟩
  rw [← hS] at hne
  cases S
  case false =>
    have HQ := Lib.hid (show q = false by rw [hq]; unfold sameC; rw [← hS]; simp)
    clear hS hq q0 q1
    cases F
    all_goals go_wp2_with fail
    all_goals go_ret
    all_goals exact ⟨by rw [HQ.out]; rfl, hb1⟩
  by_cases q4 : c.power = c'.power
  case neg =>
    have e4 : (c.power == c'.power) = false := by simpa using q4
    have HQ := Lib.hid (show q = false by rw [hq]; unfold sameC; simp [q4])
    clear q0 q1 q4 hS hq
    go_wp2_with fail
    all_goals go_ret
    all_goals exact ⟨by rw [HQ.out]; rfl, hb1⟩
  have e4 : (c.power == c'.power) = true := by simpa using q4
  by_cases q5 : c.tough = c'.tough
  case neg =>
    have e5 : (c.tough == c'.tough) = false := by simpa using q5
    have HQ := Lib.hid (show q = false by rw [hq]; unfold sameC; simp [q5])
    clear q0 q1 q4 q5 hS hq
    go_wp2_with fail
    all_goals go_ret
    all_goals exact ⟨by rw [HQ.out]; rfl, hb1⟩
  have e5 : (c.tough == c'.tough) = true := by simpa using q5
  by_cases q6 : c.says = c'.says
  case neg =>
    have e6 : (c.says == c'.says) = false := by simpa using q6
    have HQ := Lib.hid (show q = false by rw [hq]; unfold sameC; simp [q6])
    clear q0 q1 q4 q5 q6 hS hq
    go_wp2_with fail
    all_goals go_ret
    all_goals exact ⟨by rw [HQ.out]; rfl, hb1⟩
  have e6 : (c.says == c'.says) = true := by simpa using q6
  obtain ⟨v, hv⟩ : ∃ v : Bool, v = (c.abs.length == c'.abs.length && sameAs c.abs c'.abs) := ⟨_, rfl⟩
  have HQ := Lib.hid (show q = v by rw [hq, hv]; unfold sameC; rw [HF1.out, ← hS]; simp [q0, q1, q4, q5, q6])
  have hcall := equalAbs_any d d' c.abs c'.abs A A' cc cc' w1 (HX.out.grow hb1) (HX'.out.grow hb1) (by omega) HSm.out.2
  rw [← hv] at hcall
  have hcall := Lib.hid hcall
  clear q0 q1 q4 q5 q6 hS hq hv
  go_wp2_with fail
  refine hcall.out.mono ?_
  rintro e w4 ⟨rfl, hb4⟩
  clear hcall hne y0 y1 y2 y3 y4 y5 z0 z1 z2 z3 z4 z5
  go_wp2_with fail
  go_ret
  exact ⟨by rw [HQ.out]; rfl, keepB hb4 hb1⟩
end Go.Proofs.Ytnlhblnkckkeiaa
