/- Layer 7: whether two cards are the same: mulligannum.Cards. -/
import Derived.Test.YtmdfgkfimlmmnaaDoorCardBase
import Derived.Test.YtmdfgkfimlmmnaaDoorTreeSame
namespace Go.Proofs.YtmdfgkfimlmmnaaDoor
open Go.RowKit Ex Mx
namespace Ex
def sameA (a b : AbT) : Bool := a.when_ == b.when_ && sameI 6 a.cost b.cost && a.tap == b.tap && a.target == b.target && sameT a.do_ b.do_
def sameAs : List AbT → List AbT → Bool
  | a :: l, b :: l' => sameA a b && sameAs l l'
  | _, _ => true
def sameC (c c' : CardT) : Bool := c.kind == c'.kind && c.colour == c'.colour && c.fast == c'.fast && sameI 6 c.cost c'.cost && c.power == c'.power && c.tough == c'.tough && c.says == c'.says && c.abs.length == c'.abs.length && sameAs c.abs c'.abs
theorem sameAs_take : ∀ (l l' : List AbT) (k : Nat) (a b : AbT), l[k]? = some a → l'[k]? = some b → sameAs (l.take (k + 1)) (l'.take (k + 1)) = (sameAs (l.take k) (l'.take k) && sameA a b)
  | [], _, k, a, b, h, _ => by simp at h
  | _ :: _, [], k, a, b, _, h => by simp at h
  | x :: l, y :: l', 0, a, b, h, h' => by
    simp at h h'; subst h; subst h'; simp [sameAs]
  | x :: l, y :: l', k + 1, a, b, h, h' => by
    have := sameAs_take l l' k a b (by simpa using h) (by simpa using h')
    simp only [List.take_succ_cons, sameAs, this, Bool.and_assoc]
theorem sameAs_no : ∀ (l l' : List AbT) (k : Nat) (a b : AbT), l[k]? = some a → l'[k]? = some b → sameA a b = false → sameAs l l' = false
  | [], _, k, a, b, h, _, _ => by simp at h
  | _ :: _, [], k, a, b, _, h, _ => by simp at h
  | x :: l, y :: l', 0, a, b, h, h', hs => by
    simp at h h'; subst h; subst h'; simp [sameAs, hs]
  | x :: l, y :: l', k + 1, a, b, h, h', hs => by
    have := sameAs_no l l' k a b (by simpa using h) (by simpa using h') hs
    simp only [sameAs, this, Bool.and_false]
theorem sameA_refl (a : AbT) : sameA a a = true := by simp [sameA, sameI_refl, sameT_refl]
theorem sameAs_refl : ∀ l, sameAs l l = true
  | [] => rfl
  | a :: l => by simp [sameAs, sameA_refl, sameAs_refl l]
theorem sameC_refl (c : CardT) : sameC c c = true := by simp [sameC, sameI_refl, sameAs_refl]
end Ex
theorem load_cost {w : World} {b o : Nat} {f : Nat → Int} (h : w.rangeAt b o (arr .i64 6 f).toList) : (loadVar 24 ⟨b, o, none⟩).run Tryd.prog w = .ok (.agg (arr .i64 6 f)) w := by
  have := run_loadVar_mid (P := Tryd.prog) w b o 24 (arr .i64 6 f).toList _ h Tryd.underlying24 rfl (by rw [Array.length_toList, arr_size]; exact size6)
  rw [Array.toArray_toList] at this; exact this
theorem load_do {w : World} {b o : Nat} {xs : Array Value} (hs : xs.size = 5) (h : w.rangeAt b o xs.toList) : (loadVar 46 ⟨b, o, none⟩).run Tryd.prog w = .ok (.agg xs) w := by
  have := run_loadVar_mid (P := Tryd.prog) w b o 46 xs.toList _ h Tryd.underlying46 rfl (by rw [Array.length_toList, hs]; exact size5)
  rw [Array.toArray_toList] at this; exact this
theorem cost_neq (f g : Nat → Int) (W : World) : (binOp .neq 24 (.agg (arr .i64 6 f)) (.agg (arr .i64 6 g))).run Tryd.prog W = .ok (.bool (!sameI 6 f g)) W :=
  run_neq_arr W 24 3 .i64 6 Tryd.underlying24 Tryd.underlying3 (fun _ => by kernel_rfl) f g
def CdRel (w1 : World) (l l' : List AbT) (i : Value) (wr : World) : Prop :=
  ∃ k : Nat, i = .int .i64 ((k : Nat) : Int) ∧ k ≤ l.length ∧ sameAs (l.take k) (l'.take k) = true ∧ Below w1.heap.size w1 wr
set_option linter.unusedSimpArgs false in
set_option maxRecDepth 100000 in
set_option maxHeartbeats 4000000 in
theorem cards_any (d d' : Nat) (c c' : CardT) (cs cs' : Array Value) (w : World) (hr : ReadsC w.heap.size w d cs c) (hr' : ReadsC w.heap.size w d' cs' c') (hs : SmallC c) :
    Calls Tryd.prog 10 #[.agg cs, .agg cs'] w fun e w' => e = .returned (.bool (sameC c c')) ∧ Below w.heap.size w w' := by
  obtain ⟨_, _, _, _, _, _, A, cc, hcs, hl, hc, hx⟩ := hr
  obtain ⟨_, _, _, _, _, _, A', cc', hcs', hl', hc', hx'⟩ := hr'
  have HX := Lib.hid hx
  have HX' := Lib.hid hx'
  have HCs := Lib.hid hcs
  have HCs' := Lib.hid hcs'
  have HSm := Lib.hid hs
  have hl9 := hs.1
  clear hx hx' hcs hcs' hs
  go_enter Tryd.func10, Tryd.ntmps10
  go_upto_region 1 with fail
  obtain ⟨w1, hw1⟩ : ∃ w1, w1 = (w.alloc (.cells cs 27)).alloc (.cells cs' 27) := ⟨_, rfl⟩
  have hE : CdAt w1 w.heap.size cs := by rw [hw1]; exact (CdAt.new w cs).keep ((Below.refl _ _).alloc (Nat.le_refl _) _)
  have hE' : CdAt w1 (w.heap.size + 1) cs' := by
    have h := CdAt.new (w.alloc (.cells cs 27)) cs'
    rw [hw1]; simpa using h
  have hb1 : Below w.heap.size w w1 := by rw [hw1]; exact ((Below.refl _ _).alloc (Nat.le_refl _) _).alloc (by simp) _
  rw [← hw1]
  clear hw1
  have c0 : w1.cell? ⟨w.heap.size, 0, none⟩ = some (.int .i64 c.kind) := by rw [hE.cell, HCs.out]; exact cd_kind
  have k0 : w1.cell? ⟨w.heap.size + 1, 0, none⟩ = some (.int .i64 c'.kind) := by rw [hE'.cell, HCs'.out]; exact cd_kind
  have c1 : w1.cell? ⟨w.heap.size, 1, none⟩ = some (.int .i64 c.colour) := by rw [hE.cell, HCs.out]; exact cd_colour
  have k1 : w1.cell? ⟨w.heap.size + 1, 1, none⟩ = some (.int .i64 c'.colour) := by rw [hE'.cell, HCs'.out]; exact cd_colour
  have c2 : w1.cell? ⟨w.heap.size, 2, none⟩ = some (.bool c.fast) := by rw [hE.cell, HCs.out]; exact cd_fast
  have k2 : w1.cell? ⟨w.heap.size + 1, 2, none⟩ = some (.bool c'.fast) := by rw [hE'.cell, HCs'.out]; exact cd_fast
  have c9 : w1.cell? ⟨w.heap.size, 9, none⟩ = some (.int .i64 c.power) := by rw [hE.cell, HCs.out]; exact cd_power
  have k9 : w1.cell? ⟨w.heap.size + 1, 9, none⟩ = some (.int .i64 c'.power) := by rw [hE'.cell, HCs'.out]; exact cd_power
  have c10 : w1.cell? ⟨w.heap.size, 10, none⟩ = some (.int .i64 c.tough) := by rw [hE.cell, HCs.out]; exact cd_tough
  have k10 : w1.cell? ⟨w.heap.size + 1, 10, none⟩ = some (.int .i64 c'.tough) := by rw [hE'.cell, HCs'.out]; exact cd_tough
  have c11 : w1.cell? ⟨w.heap.size, 11, none⟩ = some (.int .i64 c.says) := by rw [hE.cell, HCs.out]; exact cd_says
  have k11 : w1.cell? ⟨w.heap.size + 1, 11, none⟩ = some (.int .i64 c'.says) := by rw [hE'.cell, HCs'.out]; exact cd_says
  have c12 : w1.cell? ⟨w.heap.size, 12, none⟩ = some (.slice A c.abs.length cc) := by rw [hE.cell, HCs.out]; exact cd_abs
  have k12 : w1.cell? ⟨w.heap.size + 1, 12, none⟩ = some (.slice A' c'.abs.length cc') := by rw [hE'.cell, HCs'.out]; exact cd_abs
  have hct := (show CdAt w1 w.heap.size (cardC c A c.abs.length cc) by rw [← HCs.out]; exact hE).cost
  have hct' := (show CdAt w1 (w.heap.size + 1) (cardC c' A' c'.abs.length cc') by rw [← HCs'.out]; exact hE').cost
  have hne := cost_neq c.cost c'.cost
  rw [arr6, arr6] at hne
  rw [arr6] at hct hct'
  have y0 : w1.cell? ⟨w.heap.size, 3, none⟩ = some (.int .i64 (c.cost 0)) := hct 0 _ rfl
  have z0 : w1.cell? ⟨w.heap.size + 1, 3, none⟩ = some (.int .i64 (c'.cost 0)) := hct' 0 _ rfl
  have y1 : w1.cell? ⟨w.heap.size, 4, none⟩ = some (.int .i64 (c.cost 1)) := hct 1 _ rfl
  have z1 : w1.cell? ⟨w.heap.size + 1, 4, none⟩ = some (.int .i64 (c'.cost 1)) := hct' 1 _ rfl
  have y2 : w1.cell? ⟨w.heap.size, 5, none⟩ = some (.int .i64 (c.cost 2)) := hct 2 _ rfl
  have z2 : w1.cell? ⟨w.heap.size + 1, 5, none⟩ = some (.int .i64 (c'.cost 2)) := hct' 2 _ rfl
  have y3 : w1.cell? ⟨w.heap.size, 6, none⟩ = some (.int .i64 (c.cost 3)) := hct 3 _ rfl
  have z3 : w1.cell? ⟨w.heap.size + 1, 6, none⟩ = some (.int .i64 (c'.cost 3)) := hct' 3 _ rfl
  have y4 : w1.cell? ⟨w.heap.size, 7, none⟩ = some (.int .i64 (c.cost 4)) := hct 4 _ rfl
  have z4 : w1.cell? ⟨w.heap.size + 1, 7, none⟩ = some (.int .i64 (c'.cost 4)) := hct' 4 _ rfl
  have y5 : w1.cell? ⟨w.heap.size, 8, none⟩ = some (.int .i64 (c.cost 5)) := hct 5 _ rfl
  have z5 : w1.cell? ⟨w.heap.size + 1, 8, none⟩ = some (.int .i64 (c'.cost 5)) := hct' 5 _ rfl
  clear hct hct'
  have HE' := Lib.hid hE'
  clear hE hE'

  by_cases q0 : c.kind = c'.kind
  case neg =>
    have e0 : (c.kind != c'.kind) = true := by simpa using q0
    have HS := Lib.hid (show sameC c c' = false by unfold sameC; simp [q0])
    clear q0
    go_wp2_with fail
    all_goals go_ret
    all_goals exact ⟨by rw [HS.out]; rfl, hb1⟩
  have e0 : (c.kind != c'.kind) = false := by simpa using q0
  by_cases q1 : c.colour = c'.colour
  case neg =>
    have e1 : (c.colour != c'.colour) = true := by simpa using q1
    have HS := Lib.hid (show sameC c c' = false by unfold sameC; simp [q1])
    clear q1
    go_wp2_with fail
    all_goals go_ret
    all_goals exact ⟨by rw [HS.out]; rfl, hb1⟩
  have e1 : (c.colour != c'.colour) = false := by simpa using q1
  obtain ⟨F, hF⟩ : ∃ F, F = c.fast := ⟨_, rfl⟩
  obtain ⟨F', hF'⟩ : ∃ F, F = c'.fast := ⟨_, rfl⟩
  rw [← hF] at c2
  rw [← hF'] at k2
  by_cases q2 : F = F'
  case neg =>
    have HS := Lib.hid (show sameC c c' = false by unfold sameC; rw [← hF, ← hF']; simp [q2])
    clear hF hF'
    cases F <;> cases F'
    all_goals first
      | exact absurd rfl q2
      | skip
    all_goals clear q2
    all_goals go_wp2_with fail
    all_goals go_ret
    all_goals exact ⟨by rw [HS.out]; rfl, hb1⟩
  subst q2
  have HF1 := Lib.hid (hF.symm.trans hF')
  clear hF hF'
  obtain ⟨S, hS⟩ : ∃ S, S = sameI 6 c.cost c'.cost := ⟨_, rfl⟩
  rw [← hS] at hne
  cases S
  case false =>
    have HS := Lib.hid (show sameC c c' = false by unfold sameC; rw [← hS]; simp)
    clear hS
    go_wp2_with fail
    all_goals go_ret
    all_goals exact ⟨by rw [HS.out]; rfl, hb1⟩
  have HSi := Lib.hid hS
  clear hS
  by_cases q4 : c.power = c'.power
  case neg =>
    have e4 : (c.power != c'.power) = true := by simpa using q4
    have HS := Lib.hid (show sameC c c' = false by unfold sameC; simp [q4])
    clear q4
    go_wp2_with fail
    all_goals go_ret
    all_goals exact ⟨by rw [HS.out]; rfl, hb1⟩
  have e4 : (c.power != c'.power) = false := by simpa using q4
  by_cases q5 : c.tough = c'.tough
  case neg =>
    have e5 : (c.tough != c'.tough) = true := by simpa using q5
    have HS := Lib.hid (show sameC c c' = false by unfold sameC; simp [q5])
    clear q5
    go_wp2_with fail
    all_goals go_ret
    all_goals exact ⟨by rw [HS.out]; rfl, hb1⟩
  have e5 : (c.tough != c'.tough) = false := by simpa using q5
  by_cases q6 : c.says = c'.says
  case neg =>
    have e6 : (c.says != c'.says) = true := by simpa using q6
    have HS := Lib.hid (show sameC c c' = false by unfold sameC; simp [q6])
    clear q6
    go_wp2_with fail
    all_goals go_ret
    all_goals exact ⟨by rw [HS.out]; rfl, hb1⟩
  have e6 : (c.says != c'.says) = false := by simpa using q6
  by_cases q7 : c.abs.length = c'.abs.length
  case neg =>
    have e7 : ((c.abs.length : Int) != (c'.abs.length : Int)) = true := by simp; omega
    have HS := Lib.hid (show sameC c c' = false by unfold sameC; simp [q7])
    clear q7
    go_wp2_with fail
    all_goals go_ret
    all_goals exact ⟨by rw [HS.out]; rfl, hb1⟩
  have e7 : ((c.abs.length : Int) != (c'.abs.length : Int)) = false := by simp; omega
  have HS := Lib.hid (show sameC c c' = sameAs c.abs c'.abs by unfold sameC; rw [HF1.out, ← HSi.out]; simp [q0, q1, q4, q5, q6, q7])
  have HQ7 := Lib.hid q7
  clear q0 q1 q4 q5 q6 q7
  go_upto_region 3 with fail
  go_upto_region 4 with fail
  clear c0 k0 c1 k1 c2 k2 c9 k9 c10 k10 c11 k11 c12 k12 e0 e1 e4 e5 e6 e7 hne y0 y1 y2 y3 y4 y5 z0 z1 z2 z3 z4 z5
  go_loopw [67] (fun i wr => CdRel w1 c.abs c'.abs i wr) (fun i _ => c.abs.length - (intOf i).toNat)
  case atStart => exact ⟨0, rfl, by omega, by simp [sameAs], Below.refl _ _⟩
  case round =>
    obtain ⟨k, rfl, hk, hsm, hb⟩ := hrel
    have Hs := Lib.hid hsm
    clear hsm
    by_cases hlt : k < c.abs.length
    · have hlt' : k < c'.abs.length := by have := HQ7.out; omega
      obtain ⟨a, ha⟩ : ∃ a, c.abs[k]? = some a := ⟨_, List.getElem?_eq_getElem hlt⟩
      obtain ⟨a', ha'⟩ : ∃ a, c'.abs[k]? = some a := ⟨_, List.getElem?_eq_getElem hlt'⟩
      obtain ⟨b, o, ys, rfl, hbb, hrg, hra⟩ := (HX.out.grow hb1).grow hb k a ha
      obtain ⟨b', o', ys', rfl, hbb', hrg', hra'⟩ := (HX'.out.grow hb1).grow hb k a' ha'
      have hsz := HSm.out.2 k a ha
      have HTk := Lib.hid (sameAs_take _ _ k a a' ha ha')
      have HNo := Lib.hid (sameAs_no _ _ k a a' ha ha')
      have hd : decide ((k : Int) < (c.abs.length : Int)) = true := by simp; omega
      have k12 : wr.cell? ⟨w.heap.size + 1, 12, none⟩ = some (.slice (some ⟨b', o', none⟩) c'.abs.length cc') := by rw [(HE'.out.keep hb).cell, HCs'.out]; exact cd_abs
      have g0 : (0 : Int) ≤ (k : Int) := by omega
      have g1 : (k : Int) < (c.abs.length : Int) := by omega
      have g2 : (k : Int) < (c'.abs.length : Int) := by omega
      clear hlt'
      go_upto_region 5 with fail
      have hys := hra.size
      have hy1 := hra.one
      have hsy : (Tryd.prog.info? 48).map (·.size) = some ys.size := by rw [hys]; exact size14
      have hraw := hrg
      have hnew : (wr.alloc (.cells zeroA 48)).heap[wr.heap.size]? = some (.cells zeroA 48 (0, 0)) := heap_alloc_new _ _
      go_upto_region 6 with (first
        | (refine load_ab rfl (.tmp 70) rfl b (o + k * 14) rfl ys hys hraw ?_)
        | (refine wpList_store_row rfl 48 (.tmp 6) (.tmp 71) rfl wr.heap.size _ rfl rfl 48 zeroA hnew hsy (by rw [hys]; rfl) hy1 ?_))
      obtain ⟨wn, hwn, hAn, hbn⟩ := ab_box wr (xs := ys)
      have hran := hra.grow hbn
      have hbwn := keepB hbn hb
      rw [← hwn]
      clear hwn hnew hraw hy1
      have k12 : wn.cell? ⟨w.heap.size + 1, 12, none⟩ = some (.slice (some ⟨b', o', none⟩) c'.abs.length cc') := by rw [(HE'.out.keep hbwn).cell, HCs'.out]; exact cd_abs
      have hys' := hra'.size
      have hy1' := hra'.one
      have hsy' : (Tryd.prog.info? 48).map (·.size) = some ys'.size := by rw [hys']; exact size14
      have hraw' := rangeAt_below hbn hbb' hrg'
      have hnew : (wn.alloc (.cells zeroA 48)).heap[wn.heap.size]? = some (.cells zeroA 48 (0, 0)) := heap_alloc_new _ _
      go_upto_region 7 with (first
        | (refine load_ab rfl (.tmp 75) rfl b' (o' + k * 14) rfl ys' hys' hraw' ?_)
        | (refine wpList_store_row rfl 48 (.tmp 7) (.tmp 76) rfl wn.heap.size _ rfl rfl 48 zeroA hnew hsy' (by rw [hys']; rfl) hy1' ?_))
      obtain ⟨w3, hw3, hA', hb3⟩ := ab_box wn (xs := ys')
      rw [← hw3]
      clear hw3 hnew hraw' hy1'
      have hA := hAn.keep hb3
      have hra3 := hran.grow hb3
      have hra3' := (hra'.grow hbn).grow hb3
      have hbw3 := keepB hb3 hbwn
      obtain ⟨_, _, _, xs, hye, hrx⟩ := hra3
      obtain ⟨_, _, _, xs', hye', hrx'⟩ := hra3'
      subst hye hye'
      have hxs := hrx.size
      have hxs' := hrx'.size
      clear k12 hran hra hra' hAn hbn hrg hrg'

      have p0 : w3.cell? ⟨wr.heap.size, 0, none⟩ = some (.int .i64 a.when_) := by rw [hA.cell]; exact ab_when
      have r0 : w3.cell? ⟨wn.heap.size, 0, none⟩ = some (.int .i64 a'.when_) := by rw [hA'.cell]; exact ab_when
      have p7 : w3.cell? ⟨wr.heap.size, 7, none⟩ = some (.bool a.tap) := by rw [hA.cell]; exact ab_tap
      have r7 : w3.cell? ⟨wn.heap.size, 7, none⟩ = some (.bool a'.tap) := by rw [hA'.cell]; exact ab_tap
      have p8 : w3.cell? ⟨wr.heap.size, 8, none⟩ = some (.int .i64 a.target) := by rw [hA.cell]; exact ab_target
      have r8 : w3.cell? ⟨wn.heap.size, 8, none⟩ = some (.int .i64 a'.target) := by rw [hA'.cell]; exact ab_target
      have hct := hA.cost
      have hct' := hA'.cost
      have hdo := hA.do_
      have hdo' := hA'.do_
      have hne := cost_neq a.cost a'.cost
      rw [arr6, arr6] at hne
      rw [arr6] at hct hct'
      have y0 : w3.cell? ⟨wr.heap.size, 1, none⟩ = some (.int .i64 (a.cost 0)) := hct 0 _ rfl
      have z0 : w3.cell? ⟨wn.heap.size, 1, none⟩ = some (.int .i64 (a'.cost 0)) := hct' 0 _ rfl
      have y1 : w3.cell? ⟨wr.heap.size, 2, none⟩ = some (.int .i64 (a.cost 1)) := hct 1 _ rfl
      have z1 : w3.cell? ⟨wn.heap.size, 2, none⟩ = some (.int .i64 (a'.cost 1)) := hct' 1 _ rfl
      have y2 : w3.cell? ⟨wr.heap.size, 3, none⟩ = some (.int .i64 (a.cost 2)) := hct 2 _ rfl
      have z2 : w3.cell? ⟨wn.heap.size, 3, none⟩ = some (.int .i64 (a'.cost 2)) := hct' 2 _ rfl
      have y3 : w3.cell? ⟨wr.heap.size, 4, none⟩ = some (.int .i64 (a.cost 3)) := hct 3 _ rfl
      have z3 : w3.cell? ⟨wn.heap.size, 4, none⟩ = some (.int .i64 (a'.cost 3)) := hct' 3 _ rfl
      have y4 : w3.cell? ⟨wr.heap.size, 5, none⟩ = some (.int .i64 (a.cost 4)) := hct 4 _ rfl
      have z4 : w3.cell? ⟨wn.heap.size, 5, none⟩ = some (.int .i64 (a'.cost 4)) := hct' 4 _ rfl
      have y5 : w3.cell? ⟨wr.heap.size, 6, none⟩ = some (.int .i64 (a.cost 5)) := hct 5 _ rfl
      have z5 : w3.cell? ⟨wn.heap.size, 6, none⟩ = some (.int .i64 (a'.cost 5)) := hct' 5 _ rfl
      obtain ⟨Ax, cx, hxe, _, _⟩ := hrx.shape
      obtain ⟨Ax', cx', hxe', _, _⟩ := hrx'.shape
      have hcall := effects_any d a.do_ a'.do_ xs xs' d' w3 hrx hrx' (by omega)
      subst hxe hxe'
      have u0 : w3.cell? ⟨wr.heap.size, 9, none⟩ = some (.int .i64 a.do_.op) := hdo 0 _ rfl
      have v0 : w3.cell? ⟨wn.heap.size, 9, none⟩ = some (.int .i64 a'.do_.op) := hdo' 0 _ rfl
      have u1 : w3.cell? ⟨wr.heap.size, 10, none⟩ = some (.int .i64 a.do_.n) := hdo 1 _ rfl
      have v1 : w3.cell? ⟨wn.heap.size, 10, none⟩ = some (.int .i64 a'.do_.n) := hdo' 1 _ rfl
      have u2 : w3.cell? ⟨wr.heap.size, 11, none⟩ = some (.int .i64 a.do_.m) := hdo 2 _ rfl
      have v2 : w3.cell? ⟨wn.heap.size, 11, none⟩ = some (.int .i64 a'.do_.m) := hdo' 2 _ rfl
      have u3 : w3.cell? ⟨wr.heap.size, 12, none⟩ = some (.int .i64 a.do_.who) := hdo 3 _ rfl
      have v3 : w3.cell? ⟨wn.heap.size, 12, none⟩ = some (.int .i64 a'.do_.who) := hdo' 3 _ rfl
      have u4 : w3.cell? ⟨wr.heap.size, 13, none⟩ = some (.slice Ax a.do_.subs.length cx) := hdo 4 _ rfl
      have v4 : w3.cell? ⟨wn.heap.size, 13, none⟩ = some (.slice Ax' a'.do_.subs.length cx') := hdo' 4 _ rfl
      have hcall := Lib.hid hcall
      clear hct hct' hdo hdo' hrx hrx'
      clear hA hA'
      by_cases q0 : a.when_ = a'.when_
      case neg =>
        have e0 : (a.when_ != a'.when_) = true := by simpa using q0
        have HS2 := Lib.hid (show sameA a a' = false by unfold sameA; simp [q0])
        have HF := Lib.hid (HS.out.trans (HNo.out HS2.out))
        clear q0
        go_wp2_with fail
        all_goals go_ret
        all_goals exact ⟨by rw [HF.out]; rfl, keepB hbw3 hb1⟩
      have e0 : (a.when_ != a'.when_) = false := by simpa using q0
      obtain ⟨S, hS⟩ : ∃ S, S = sameI 6 a.cost a'.cost := ⟨_, rfl⟩
      rw [← hS] at hne
      cases S
      case false =>
        have HS2 := Lib.hid (show sameA a a' = false by unfold sameA; rw [← hS]; simp)
        have HF := Lib.hid (HS.out.trans (HNo.out HS2.out))
        clear hS
        go_wp2_with fail
        all_goals go_ret
        all_goals exact ⟨by rw [HF.out]; rfl, keepB hbw3 hb1⟩
      have HSi := Lib.hid hS
      clear hS
      obtain ⟨F, hF⟩ : ∃ F, F = a.tap := ⟨_, rfl⟩
      obtain ⟨F', hF'⟩ : ∃ F, F = a'.tap := ⟨_, rfl⟩
      rw [← hF] at p7
      rw [← hF'] at r7
      by_cases q2 : F = F'
      case neg =>
        have HS2 := Lib.hid (show sameA a a' = false by unfold sameA; rw [← hF, ← hF']; simp [q2])
        have HF := Lib.hid (HS.out.trans (HNo.out HS2.out))
        clear hF hF'
        cases F <;> cases F'
        all_goals first
          | exact absurd rfl q2
          | skip
        all_goals clear q2
        all_goals go_wp2_with fail
        all_goals go_ret
        all_goals exact ⟨by rw [HF.out]; rfl, keepB hbw3 hb1⟩
      subst q2
      have HF1 := Lib.hid (hF.symm.trans hF')
      clear hF hF'
      by_cases q3 : a.target = a'.target
      case neg =>
        have e3 : (a.target != a'.target) = true := by simpa using q3
        have HS2 := Lib.hid (show sameA a a' = false by unfold sameA; simp [q3])
        have HF := Lib.hid (HS.out.trans (HNo.out HS2.out))
        clear q3
        go_wp2_with fail
        all_goals go_ret
        all_goals exact ⟨by rw [HF.out]; rfl, keepB hbw3 hb1⟩
      have e3 : (a.target != a'.target) = false := by simpa using q3
      have HS2 := Lib.hid (show sameA a a' = sameT a.do_ a'.do_ by unfold sameA; rw [HF1.out, ← HSi.out]; simp [q0, q3])
      clear q0 q3
      go_wp2_with fail
      refine hcall.out.mono ?_
      rintro e w4 ⟨rfl, hb4⟩
      have hbw4 := keepB hb4 hbw3
      obtain ⟨v, hv⟩ : ∃ v, v = sameT a.do_ a'.do_ := ⟨_, rfl⟩
      rw [← hv] at HS2 ⊢
      clear hv hcall hne y0 y1 y2 y3 y4 y5 z0 z1 z2 z3 z4 z5 u0 u1 u2 u3 u4 v0 v1 v2 v3 v4
      cases v
      case false =>
        have HF := Lib.hid (HS.out.trans (HNo.out HS2.out))
        go_wp2_with fail
        go_ret
        exact ⟨by rw [HF.out]; rfl, keepB hbw4 hb1⟩
      have HN := Lib.hid (show sameAs (c.abs.take (k + 1)) (c'.abs.take (k + 1)) = true by rw [HTk.out, Hs.out, HS2.out]; rfl)
      clear hd
      go_wp2_with fail
      go_roundw
      case rel => exact ⟨k + 1, by go_num, by omega, HN.out, hbw4⟩
      case measure => simp [intOf]; omega
    · obtain rfl : k = c.abs.length := by omega
      have hd : decide ((c.abs.length : Int) < (c.abs.length : Int)) = false := by simp
      have hz : sameAs c.abs c'.abs = true := by
        have h := Hs.out
        rw [List.take_length, HQ7.out, List.take_length] at h
        exact h
      have HF := Lib.hid (HS.out.trans hz)
      clear hz
      go_wp2_with fail
      go_ret
      exact ⟨by rw [HF.out]; rfl, keepB hb hb1⟩
end Go.Proofs.YtmdfgkfimlmmnaaDoor
