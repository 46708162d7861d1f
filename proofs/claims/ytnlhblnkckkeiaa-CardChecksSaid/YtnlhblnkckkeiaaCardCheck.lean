/- Layer 7: the reference's Check. -/
import Derived.Test.YtnlhblnkckkeiaaCardChk
import Derived.Deep.DeepCutAuto
namespace Go.Proofs.Ytnlhblnkckkeiaa
open Go.RowKit Ex Mx
theorem reads_sub {B d : Nat} {w : World} {xs : Array Value} {t x : ET} (h : Reads B w d xs t) (hx : t.subs = [x]) : ∃ b o cx, xs[4]? = some (.slice (some ⟨b, o, none⟩) 1 cx) ∧ b < B ∧ w.cell? ⟨b, o, none⟩ = some (.int .i64 x.op) := by
  cases d with
  | zero => exact absurd h id
  | succ d =>
    cases t with
    | node op n m who l =>
      have hx : l = [x] := hx
      subst hx
      obtain ⟨_, _, _, _, A, c, rfl, _, _, hs⟩ := h
      obtain ⟨b, o, ys, rfl, hb, hra, hrx⟩ := hs 0 x rfl
      obtain ⟨Ax, cx, hxe, _, _⟩ := hrx.shape
      exact ⟨b, o, c, rfl, hb, hra 0 _ (by rw [hxe]; rfl)⟩
def CcRel (w1 : World) (l : List AbT) (i : Value) (wr : World) : Prop := ∃ k : Nat, i = .int .i64 ((k : Nat) : Int) ∧ chkAs (l.take k) = 0 ∧ k ≤ l.length ∧ Below w1.heap.size w1 wr
def CsRel (w1 : World) (l : List AbT) (n i : Value) (wr : World) : Prop := ∃ k : Nat, i = .int .i64 ((k : Nat) : Int) ∧ n = .int .i64 (((usesK l 0 k).length : Nat) : Int) ∧ k ≤ l.length ∧ Below w1.heap.size w1 wr
set_option linter.unusedSimpArgs false in
set_option maxRecDepth 100000 in
set_option maxHeartbeats 8000000 in
theorem checkCRef_any (d : Nat) (c : CardT) (cs : Array Value) (w : World) (hr : ReadsC w.heap.size w d cs c) (hs : SmallC c) : Calls Try.prog 11 #[.agg cs] w fun e w' => e = .returned (.int .i64 (chkC c)) ∧ Below w.heap.size w w' := by
  obtain ⟨_, _, hwd, _, _, _, A, cc, hcs, hl, hc, hx⟩ := hr
  have HX := Lib.hid hx
  have HCs := Lib.hid hcs
  have HSm := Lib.hid hs
  have hl9 := hs.1
  have HT := Lib.hid (show chkC c = if ¬ KindC c then 6 else if ¬ CostC c.cost (c.kind == 0) then 10 else if ¬ BodyC c then 1 else if ¬ ShapeC c then 2 else chkAs c.abs by unfold chkC; rfl)
  clear hx hcs hs
  go_enter Try.func11, Try.ntmps11
  go_upto_region 1 with fail
  obtain ⟨w1, hw1⟩ : ∃ w1, w1 = w.alloc (.cells cs 26) := ⟨_, rfl⟩
  have HE := Lib.hid (show CdAt w1 w.heap.size cs by rw [hw1]; exact CdAt.new _ _)
  have hb1 : Below w.heap.size w w1 := by rw [hw1]; exact (Below.refl _ _).alloc (Nat.le_refl _) _
  rw [← hw1]
  clear hw1
  have c0 : w1.cell? ⟨w.heap.size, 0, none⟩ = some (.int .i64 c.kind) := by rw [HE.out.cell, HCs.out]; exact cd_kind
  have c1 : w1.cell? ⟨w.heap.size, 1, none⟩ = some (.int .i64 c.colour) := by rw [HE.out.cell, HCs.out]; exact cd_colour
  by_cases k1 : c.kind < 0
  case pos =>
    replace HT := Lib.hid (HT.out.trans (if_pos (fun h => by have := h.1.1; omega)))
    have e1 : decide (c.kind < 0) = true := by simpa using k1
    clear k1
    go_wp2_with fail
    all_goals go_ret
    all_goals exact ⟨by rw [HT.out]; rfl, hb1⟩
  have e1 : decide (c.kind < 0) = false := by simpa using k1
  by_cases k2 : 3 < c.kind
  case pos =>
    replace HT := Lib.hid (HT.out.trans (if_pos (fun h => by have := h.1.2; omega)))
    have e2 : decide (3 < c.kind) = true := by simpa using k2
    clear k1 k2
    go_wp2_with fail
    all_goals go_ret
    all_goals exact ⟨by rw [HT.out]; rfl, hb1⟩
  have e2 : decide (3 < c.kind) = false := by simpa using k2
  by_cases k3 : c.colour < 0
  case pos =>
    replace HT := Lib.hid (HT.out.trans (if_pos (fun h => by have := h.2.1; omega)))
    have e3 : decide (c.colour < 0) = true := by simpa using k3
    clear k1 k2 k3
    go_wp2_with fail
    all_goals go_ret
    all_goals exact ⟨by rw [HT.out]; rfl, hb1⟩
  have e3 : decide (c.colour < 0) = false := by simpa using k3
  by_cases k4 : 5 < c.colour
  case pos =>
    replace HT := Lib.hid (HT.out.trans (if_pos (fun h => by have := h.2.2; omega)))
    have e4 : decide (5 < c.colour) = true := by simpa using k4
    clear k1 k2 k3 k4
    go_wp2_with fail
    all_goals go_ret
    all_goals exact ⟨by rw [HT.out]; rfl, hb1⟩
  have e4 : decide (5 < c.colour) = false := by simpa using k4
  replace HT := Lib.hid (HT.out.trans (if_neg (not_not_intro (show KindC c from ⟨⟨by omega, by omega⟩, by omega, by omega⟩))))
  clear k3 k4
  have hct := (show CdAt w1 w.heap.size (cardC c A c.abs.length cc) by rw [← HCs.out]; exact HE.out).cost
  go_upto_region 3 with fail
  go_wp2_with (refine wantCost (by rfl) (.tmp 28) rfl w.heap.size 3 rfl c.cost hct ?_)
  refine (costRef_any c.cost (c.kind == 0) w1 hwd).mono ?_
  rintro e w2 ⟨q, hq, rfl, hb2⟩
  have hbw2 := keepB hb2 hb1
  have HE2 := Lib.hid (HE.out.keep hb2)
  clear hct c0 c1 e1 e2 e3 e4
  cases q
  case false =>
    replace HT := Lib.hid (HT.out.trans (if_pos (fun h => by have := hq.2 h; cases this)))
    clear hq
    go_wp2_with fail
    all_goals go_ret
    all_goals exact ⟨by rw [HT.out]; rfl, hbw2⟩
  replace HT := Lib.hid (HT.out.trans (if_neg (not_not_intro (hq.1 rfl))))
  clear hq
  have c0 : w2.cell? ⟨w.heap.size, 0, none⟩ = some (.int .i64 c.kind) := by rw [HE2.out.cell, HCs.out]; exact cd_kind
  have c2 : w2.cell? ⟨w.heap.size, 2, none⟩ = some (.bool c.fast) := by rw [HE2.out.cell, HCs.out]; exact cd_fast
  have c9 : w2.cell? ⟨w.heap.size, 9, none⟩ = some (.int .i64 c.power) := by rw [HE2.out.cell, HCs.out]; exact cd_power
  have c10 : w2.cell? ⟨w.heap.size, 10, none⟩ = some (.int .i64 c.tough) := by rw [HE2.out.cell, HCs.out]; exact cd_tough
  have c11 : w2.cell? ⟨w.heap.size, 11, none⟩ = some (.int .i64 c.says) := by rw [HE2.out.cell, HCs.out]; exact cd_says
  have c12 : w2.cell? ⟨w.heap.size, 12, none⟩ = some (.slice A c.abs.length cc) := by rw [HE2.out.cell, HCs.out]; exact cd_abs
  obtain ⟨B1, hB1⟩ : ∃ B, (c.kind == 1) = B := ⟨_, rfl⟩
  go_upto_if 37 with fail
  go_cut [2] (fun s2 wx => s2 = .int .i64 0 ∧ w2 = wx ∧ BodyC c)
  case first =>
    as_aux_lemma =>
      cases B1
      case true =>
        have hk : c.kind = 1 := by simpa using hB1
        have HB : Hid (BodyC c ↔ (0 ≤ c.power ∧ c.power ≤ 99) ∧ (1 ≤ c.tough ∧ c.tough ≤ 99) ∧ (0 ≤ c.says ∧ c.says ≤ 255)) := by show _ ↔ _; unfold BodyC; rw [if_pos hk]
        clear hk hB1 k1 k2 c2 c12
        by_cases j0 : c.power < 0
        case pos =>
          replace HT := Lib.hid (HT.out.trans (if_pos (fun h => by have := HB.out.1 h; omega)))
          have e : decide (c.power < 0) = true := by simpa using j0
          clear j0 
          go_wp2_with fail
          all_goals go_ret
          all_goals exact ⟨by rw [HT.out]; rfl, hbw2⟩
        have e0 : decide (c.power < 0) = false := by simpa using j0
        by_cases j1 : 99 < c.power
        case pos =>
          replace HT := Lib.hid (HT.out.trans (if_pos (fun h => by have := HB.out.1 h; omega)))
          have e : decide (99 < c.power) = true := by simpa using j1
          clear j1 j0
          go_wp2_with fail
          all_goals go_ret
          all_goals exact ⟨by rw [HT.out]; rfl, hbw2⟩
        have e1 : decide (99 < c.power) = false := by simpa using j1
        by_cases j2 : c.tough < 1
        case pos =>
          replace HT := Lib.hid (HT.out.trans (if_pos (fun h => by have := HB.out.1 h; omega)))
          have e : decide (c.tough < 1) = true := by simpa using j2
          clear j2 j0 j1
          go_wp2_with fail
          all_goals go_ret
          all_goals exact ⟨by rw [HT.out]; rfl, hbw2⟩
        have e2 : decide (c.tough < 1) = false := by simpa using j2
        by_cases j3 : 99 < c.tough
        case pos =>
          replace HT := Lib.hid (HT.out.trans (if_pos (fun h => by have := HB.out.1 h; omega)))
          have e : decide (99 < c.tough) = true := by simpa using j3
          clear j3 j0 j1 j2
          go_wp2_with fail
          all_goals go_ret
          all_goals exact ⟨by rw [HT.out]; rfl, hbw2⟩
        have e3 : decide (99 < c.tough) = false := by simpa using j3
        by_cases j4 : c.says < 0
        case pos =>
          replace HT := Lib.hid (HT.out.trans (if_pos (fun h => by have := HB.out.1 h; omega)))
          have e : decide (c.says < 0) = true := by simpa using j4
          clear j4 j0 j1 j2 j3
          go_wp2_with fail
          all_goals go_ret
          all_goals exact ⟨by rw [HT.out]; rfl, hbw2⟩
        have e4 : decide (c.says < 0) = false := by simpa using j4
        by_cases j5 : 255 < c.says
        case pos =>
          replace HT := Lib.hid (HT.out.trans (if_pos (fun h => by have := HB.out.1 h; omega)))
          have e : decide (255 < c.says) = true := by simpa using j5
          clear j5 j0 j1 j2 j3 j4
          go_wp2_with fail
          all_goals go_ret
          all_goals exact ⟨by rw [HT.out]; rfl, hbw2⟩
        have e5 : decide (255 < c.says) = false := by simpa using j5
        have HBt := Lib.hid (HB.out.2 ⟨⟨by omega, by omega⟩, ⟨by omega, by omega⟩, by omega, by omega⟩)
        clear j0 j1 j2 j3 j4 j5
        go_wp2_with fail
        go_meet
        exact ⟨rfl, rfl, HBt.out⟩
      case false =>
        have hk : c.kind ≠ 1 := by simpa using hB1
        have HB : Hid (BodyC c ↔ c.power = 0 ∧ c.tough = 0 ∧ c.says = 0) := by show _ ↔ _; unfold BodyC; rw [if_neg hk]
        clear hk hB1 k1 k2 c2 c12
        by_cases j0 : c.power = 0
        case neg =>
          replace HT := Lib.hid (HT.out.trans (if_pos (fun h => j0 (HB.out.1 h).1)))
          have e : (c.power != 0) = true := by simpa using j0
          clear j0
          go_wp2_with fail
          all_goals go_ret
          all_goals exact ⟨by rw [HT.out]; rfl, hbw2⟩
        have e0 : (c.power != 0) = false := by simpa using j0
        by_cases j1 : c.tough = 0
        case neg =>
          replace HT := Lib.hid (HT.out.trans (if_pos (fun h => j1 (HB.out.1 h).2.1)))
          have e : (c.tough != 0) = true := by simpa using j1
          clear j1
          go_wp2_with fail
          all_goals go_ret
          all_goals exact ⟨by rw [HT.out]; rfl, hbw2⟩
        have e1 : (c.tough != 0) = false := by simpa using j1
        by_cases j2 : c.says = 0
        case neg =>
          replace HT := Lib.hid (HT.out.trans (if_pos (fun h => j2 (HB.out.1 h).2.2)))
          have e : (c.says != 0) = true := by simpa using j2
          clear j2
          go_wp2_with fail
          all_goals go_ret
          all_goals exact ⟨by rw [HT.out]; rfl, hbw2⟩
        have e2 : (c.says != 0) = false := by simpa using j2
        have HBt := Lib.hid (HB.out.2 ⟨j0, j1, j2⟩)
        clear j0 j1 j2
        go_wp2_with fail
        go_meet
        exact ⟨rfl, rfl, HBt.out⟩
  case rest =>
    obtain ⟨rfl, rfl, hbody⟩ := hcut
    replace HT := Lib.hid (HT.out.trans (if_neg (not_not_intro hbody)))
    clear hbody hB1 c9 c10 c11
    go_upto_region 12 with fail
    go_loopw [3, 82] (fun n i wr => CsRel w2 c.abs n i wr) (fun _ i _ => c.abs.length - (intOf i).toNat)
    case atStart => exact ⟨0, rfl, rfl, by omega, Below.refl _ _⟩
    case round =>
      obtain ⟨k, rfl, rfl, hk, hb⟩ := hrel
      have hul := usesK_len c.abs 0 k
      clear c0 c2 c12
      by_cases hlt : k < c.abs.length
      · obtain ⟨a, ha⟩ : ∃ a, c.abs[k]? = some a := ⟨_, List.getElem?_eq_getElem hlt⟩
        obtain ⟨b, o, ys, rfl, hbb, hrg, hra⟩ := ((HX.out.grow hb1).grow hb2).grow hb k a ha
        have hd : decide ((k : Int) < (c.abs.length : Int)) = true := by simp; omega
        go_upto_region 13 with fail
        have hys := hra.size
        have hy1 := hra.one
        have hsy : (Try.prog.info? 44).map (·.size) = some ys.size := by rw [hys]; exact size14
        have hraw := hrg
        have hnew : (wr.alloc (.cells zeroA 44)).heap[wr.heap.size]? = some (.cells zeroA 44 (0, 0)) := heap_alloc_new _ _
        go_upto_region 14 with (first
          | (refine load_ab rfl (.tmp 84) rfl b (o + k * 14) rfl ys hys hraw ?_)
          | (refine wpList_store_row rfl 44 (.tmp 5) (.tmp 85) rfl wr.heap.size _ rfl rfl 44 zeroA hnew hsy (by rw [hys]; rfl) hy1 ?_))
        obtain ⟨wn, hwn, hAn, hbn⟩ := ab_box wr (xs := ys)
        have hran := hra.grow hbn
        have hbwn := keepB hbn hb
        rw [← hwn]
        clear hwn hnew hraw hy1
        obtain ⟨_, _, _, xs, hye, _⟩ := hran
        have cw : wn.cell? ⟨wr.heap.size, 0, none⟩ = some (.int .i64 a.when_) := by rw [hAn.cell, hye]; exact ab_when
        obtain ⟨x, hx⟩ : ∃ x, x = a.when_ := ⟨_, rfl⟩
        rw [← hx] at cw
        obtain ⟨u, hu⟩ : ∃ u, u = (usesK c.abs 0 k).length := ⟨_, rfl⟩
        rw [← hu] at hul ⊢
        by_cases hw : a.when_ = 0
        · have HN := Lib.hid (show (usesK c.abs 0 (k + 1)).length = u + 1 by rw [usesK_yes ha hw, List.length_append, ← hu]; rfl)
          have e1 : (x == 0) = true := by rw [hx]; simpa using hw
          clear hw hx hye hu
          go_wp2_with fail
          go_roundw
          case rel => exact ⟨k + 1, by go_num, by rw [HN.out]; go_num, by omega, hbwn⟩
          case measure => simp [intOf]; omega
        · have HN := Lib.hid (show (usesK c.abs 0 (k + 1)).length = u by rw [usesK_no ha hw, ← hu])
          have e1 : (x == 0) = false := by rw [hx]; simpa using hw
          clear hw hx hye hu
          go_wp2_with fail
          go_roundw
          case rel => exact ⟨k + 1, by go_num, by rw [HN.out], by omega, hbwn⟩
          case measure => simp [intOf]; omega
      · obtain rfl : k = c.abs.length := by omega
        have hd : decide ((c.abs.length : Int) < (c.abs.length : Int)) = false := by simp
        obtain ⟨u, hu⟩ : ∃ u, u = (usesK c.abs 0 c.abs.length).length := ⟨_, rfl⟩
        rw [← hu] at hul ⊢
        have HU := Lib.hid (show (usesL c.abs 0).length = u from hu.symm)
        have HE3 := Lib.hid (HE2.out.keep hb)
        have hbw3 := keepB hb hbw2
        have c0 : wr.cell? ⟨w.heap.size, 0, none⟩ = some (.int .i64 c.kind) := by rw [HE3.out.cell, HCs.out]; exact cd_kind
        have c2 : wr.cell? ⟨w.heap.size, 2, none⟩ = some (.bool c.fast) := by rw [HE3.out.cell, HCs.out]; exact cd_fast
        have c12 : wr.cell? ⟨w.heap.size, 12, none⟩ = some (.slice A c.abs.length cc) := by rw [HE3.out.cell, HCs.out]; exact cd_abs
        clear hu
        obtain ⟨U, hU⟩ : ∃ U : Int, U = (u : Int) := ⟨_, rfl⟩
        rw [← hU]
        have HUi := Lib.hid hU
        clear hU
        go_upto_region 17 with fail
        obtain ⟨SB, hSB⟩ : ∃ b, b = !decide (ShapeC c) := ⟨_, rfl⟩
        have HSB := Lib.hid hSB
        clear hSB
        go_cut [133] (fun s133 wx => s133 = .bool SB ∧ wr = wx)
        case first =>
          as_aux_lemma =>
            obtain ⟨F, hF⟩ : ∃ F, F = c.fast := ⟨_, rfl⟩
            rw [← hF] at c2
            by_cases q2 : c.kind = 2
            · have hsh : Hid (ShapeC c ↔ (u = 1 ∧ c.abs.length = 1)) := by
                show _ ↔ _
                unfold ShapeC; rw [if_pos q2, HU.out]; simp [q2]
              have e2 : (c.kind == 2) = true := by simpa using q2
              have n2 : (c.kind != 2) = false := by simpa using q2
              clear q2 k1 k2 hF
              by_cases u1 : u = 1
              · have f1 : (U != 1) = false := by have := HUi.out; simp; omega
                by_cases l1 : c.abs.length = 1
                · have g1 : ((c.abs.length : Int) != 1) = false := by simp; omega
                  have HQ := Lib.hid (show SB = false by rw [HSB.out]; simp [hsh.out, u1, l1])
                  clear u1 l1 hlt
                  cases F
                  all_goals go_wp2_with fail
                  all_goals go_meet
                  all_goals exact ⟨by rw [HQ.out] <;> rfl, rfl⟩
                · have g1 : ((c.abs.length : Int) != 1) = true := by simp; omega
                  have HQ := Lib.hid (show SB = true by rw [HSB.out]; simp [hsh.out, l1])
                  clear u1 l1 hlt
                  cases F
                  all_goals go_wp2_with fail
                  all_goals go_meet
                  all_goals exact ⟨by rw [HQ.out] <;> rfl, rfl⟩
              · have f1 : (U != 1) = true := by have := HUi.out; simp; omega
                have HQ := Lib.hid (show SB = true by rw [HSB.out]; simp [hsh.out, u1])
                clear u1 hlt
                cases F
                all_goals go_wp2_with fail
                all_goals go_meet
                all_goals exact ⟨by rw [HQ.out] <;> rfl, rfl⟩
            · have hsh : Hid (ShapeC c ↔ ((F = true → c.kind = 1) ∧ u = 0 ∧ c.abs.length ≤ 4)) := by
                show _ ↔ _
                unfold ShapeC; rw [if_neg q2, HU.out, hF]; simp [q2]
              have e2 : (c.kind == 2) = false := by simpa using q2
              have n2 : (c.kind != 2) = true := by simpa using q2
              by_cases u1 : u = 0
              · have f1 : decide ((0 : Int) < U) = false := by have := HUi.out; simp; omega
                by_cases l1 : c.abs.length ≤ 4
                · have g1 : decide ((4 : Int) < (c.abs.length : Int)) = false := by simp; omega
                  by_cases q1 : c.kind = 1
                  · have n1 : (c.kind != 1) = false := by simpa using q1
                    have HQ := Lib.hid (show SB = false by rw [HSB.out]; simp [hsh.out, u1, l1, q1])
                    clear q1 q2 u1 l1 hlt k1 k2 hF
                    cases F
                    all_goals go_wp2_with fail
                    all_goals go_meet
                    all_goals exact ⟨by rw [HQ.out] <;> rfl, rfl⟩
                  · have n1 : (c.kind != 1) = true := by simpa using q1
                    have HQ := Lib.hid (show SB = F by rw [HSB.out]; cases F <;> simp [hsh.out, u1, l1, q1])
                    clear q1 q2 u1 l1 hlt k1 k2 hF
                    cases F
                    all_goals go_wp2_with fail
                    all_goals go_meet
                    all_goals exact ⟨by rw [HQ.out] <;> rfl, rfl⟩
                · have g1 : decide ((4 : Int) < (c.abs.length : Int)) = true := by simp; omega
                  have HQ := Lib.hid (show SB = true by rw [HSB.out]; simp [hsh.out, l1])
                  by_cases q1 : c.kind = 1
                  · have n1 : (c.kind != 1) = false := by simpa using q1
                    clear q1 q2 u1 l1 hlt k1 k2 hF
                    cases F
                    all_goals go_wp2_with fail
                    all_goals go_meet
                    all_goals exact ⟨by rw [HQ.out] <;> rfl, rfl⟩
                  · have n1 : (c.kind != 1) = true := by simpa using q1
                    clear q1 q2 u1 l1 hlt k1 k2 hF
                    cases F
                    all_goals go_wp2_with fail
                    all_goals go_meet
                    all_goals exact ⟨by rw [HQ.out] <;> rfl, rfl⟩
              · have f1 : decide ((0 : Int) < U) = true := by have := HUi.out; simp; omega
                have HQ := Lib.hid (show SB = true by rw [HSB.out]; simp [hsh.out, u1])
                by_cases q1 : c.kind = 1
                · have n1 : (c.kind != 1) = false := by simpa using q1
                  clear q1 q2 u1 hlt k1 k2 hF
                  cases F
                  all_goals go_wp2_with fail
                  all_goals go_meet
                  all_goals exact ⟨by rw [HQ.out] <;> rfl, rfl⟩
                · have n1 : (c.kind != 1) = true := by simpa using q1
                  clear q1 q2 u1 hlt k1 k2 hF
                  cases F
                  all_goals go_wp2_with fail
                  all_goals go_meet
                  all_goals exact ⟨by rw [HQ.out] <;> rfl, rfl⟩
        case rest =>
          obtain ⟨rfl, rfl⟩ := hcut
          cases SB
          case true =>
            replace HT := Lib.hid (HT.out.trans (if_pos (fun h => by have := HSB.out; simp [h] at this)))
            go_wp2_with fail
            all_goals go_ret
            all_goals exact ⟨by rw [HT.out]; rfl, hbw3⟩
          replace HT := Lib.hid (HT.out.trans (if_neg (fun h => by have := HSB.out; simp [h] at this)))
          clear c0 c2 hul hlt
          go_upto_region 20 with fail
          clear c12
          have HX3 := Lib.hid (((HX.out.grow hb1).grow hb2).grow hb)
          clear hb1 hb2 hbw2
          have hb1 := hbw3
          clear hb
          obtain ⟨w3, hw3⟩ : ∃ w3, w3 = wr := ⟨_, rfl⟩
          subst hw3
          go_loopw [137] (fun i wr => CcRel w3 c.abs i wr) (fun i _ => c.abs.length - (intOf i).toNat)
          case atStart => exact ⟨0, rfl, by simp [chkAs], by omega, Below.refl _ _⟩
          case round =>
            as_aux_lemma =>
              obtain ⟨k, rfl, h0, hk, hb⟩ := hrel
              have H0 := Lib.hid h0
              clear h0
              by_cases hlt : k < c.abs.length
              · obtain ⟨a, ha⟩ : ∃ a, c.abs[k]? = some a := ⟨_, List.getElem?_eq_getElem hlt⟩
                obtain ⟨b, o, ys, rfl, hbb, hrg, hra⟩ := HX3.out.grow hb k a ha
                have hd : decide ((k : Int) < (c.abs.length : Int)) = true := by simp; omega
                have hsz := HSm.out.2 k a ha
                have HTk := Lib.hid (chkAs_take c.abs k a H0.out ha)
                have HSt := Lib.hid (chkAs_stop c.abs k a H0.out ha)
                go_upto_region 21 with fail
                have hys := hra.size
                have hy1 := hra.one
                have hsy : (Try.prog.info? 44).map (·.size) = some ys.size := by rw [hys]; exact size14
                have hraw := hrg
                have hnew : (wr.alloc (.cells zeroA 44)).heap[wr.heap.size]? = some (.cells zeroA 44 (0, 0)) := heap_alloc_new _ _
                go_upto_region 22 with (first
                  | (refine load_ab rfl (.tmp 139) rfl b (o + k * 14) rfl ys hys hraw ?_)
                  | (refine wpList_store_row rfl 44 (.tmp 7) (.tmp 140) rfl wr.heap.size _ rfl rfl 44 zeroA hnew hsy (by rw [hys]; rfl) hy1 ?_))
                obtain ⟨wn, hwn, hAn, hbn⟩ := ab_box wr (xs := ys)
                have hran := hra.grow hbn
                have hbwn := keepB hbn hb
                rw [← hwn]
                clear hwn hnew hraw hy1
                obtain ⟨_, hwa, _, xs, hye, hrx⟩ := hran
                have hxs := hrx.size
                have HYe := Lib.hid hye
                obtain ⟨g, hg⟩ : ∃ g, g = wr.heap.size := ⟨_, rfl⟩
                rw [← hg] at hAn ⊢
                obtain ⟨wh, hwh⟩ : ∃ x, x = a.when_ := ⟨_, rfl⟩
                obtain ⟨tp, htp⟩ : ∃ x, x = a.tap := ⟨_, rfl⟩
                obtain ⟨tg, htg⟩ : ∃ x, x = a.target := ⟨_, rfl⟩
                have HWh := Lib.hid hwh
                have HTp0 := Lib.hid htp
                have HTg0 := Lib.hid htg
                have HA := Lib.hid (show chkA a = if ¬ (0 ≤ wh ∧ wh ≤ 6) then 6 else if ¬ CostC a.cost (wh != 1) then 10 else if ¬ TapC a then 2 else if ¬ TargC a then 11 else if chkTop a.do_ a.target ≠ 0 then chkTop a.do_ a.target else if ¬ MtC a then 2 else if ¬ StC a then 2 else 0 by unfold chkA; rw [hwh])
                have k0 : wn.cell? ⟨g, 0, none⟩ = some (.int .i64 wh) := by rw [hAn.cell, hye, hwh]; exact ab_when
                have hbw4 := hbwn
                clear hye hwh htp htg hg hd hbn hra hrg
                by_cases q0 : wh < 0
                case pos =>
                  replace HA := Lib.hid (HA.out.trans (if_pos (fun h => by omega)))
                  have e0 : decide (wh < 0) = true := by simpa using q0
                  clear q0
                  have HTf := Lib.hid (HT.out.trans ((HSt.out (by rw [HA.out]; decide)).trans HA.out))
                  go_wp2_with fail
                  all_goals go_ret
                  all_goals exact ⟨by rw [HTf.out]; rfl, keepB hbw4 hb1⟩
                by_cases q6 : 6 < wh
                case pos =>
                  replace HA := Lib.hid (HA.out.trans (if_pos (fun h => by omega)))
                  have e0 : decide (wh < 0) = false := by simpa using q0
                  have e6 : decide (6 < wh) = true := by simpa using q6
                  clear q0 q6
                  have HTf := Lib.hid (HT.out.trans ((HSt.out (by rw [HA.out]; decide)).trans HA.out))
                  go_wp2_with fail
                  all_goals go_ret
                  all_goals exact ⟨by rw [HTf.out]; rfl, keepB hbw4 hb1⟩
                have e0 : decide (wh < 0) = false := by simpa using q0
                have e6 : decide (6 < wh) = false := by simpa using q6
                replace HA := Lib.hid (HA.out.trans (if_neg (not_not_intro ⟨by omega, by omega⟩)))
                have hct := (show AbAt wn g (abC a xs) by rw [← HYe.out]; exact hAn).cost
                clear hbw4
                go_upto_region 24 with fail
                go_wp2_with (refine wantCost (by rfl) (.tmp 149) rfl g 1 rfl a.cost hct ?_)
                refine (costRef_any a.cost (wh != 1) wn hwa).mono ?_
                rintro e w4 ⟨q, hq, rfl, hb4⟩
                have hA4 := hAn.keep hb4
                have hbw4 := keepB hb4 hbwn
                have hrx := hrx.grow hb4
                have k0 : w4.cell? ⟨g, 0, none⟩ = some (.int .i64 wh) := by rw [hA4.cell, HYe.out, HWh.out]; exact ab_when
                have k7 : w4.cell? ⟨g, 7, none⟩ = some (.bool tp) := by rw [hA4.cell, HYe.out, HTp0.out]; exact ab_tap
                have k8 : w4.cell? ⟨g, 8, none⟩ = some (.int .i64 tg) := by rw [hA4.cell, HYe.out, HTg0.out]; exact ab_target
                have hdo := (show AbAt w4 g (abC a xs) by rw [← HYe.out]; exact hA4).do_
                clear hct hb4 hbwn hAn e0 e6
                cases q
                case false =>
                  replace HA := Lib.hid (HA.out.trans (if_pos (fun h => by have := hq.2 h; cases this)))
                  clear hq
                  have HTf := Lib.hid (HT.out.trans ((HSt.out (by rw [HA.out]; decide)).trans HA.out))
                  go_wp2_with fail
                  all_goals go_ret
                  all_goals exact ⟨by rw [HTf.out]; rfl, keepB hbw4 hb1⟩
                replace HA := Lib.hid (HA.out.trans (if_neg (not_not_intro (hq.1 rfl))))
                clear hq
                obtain ⟨TB, hTB⟩ : ∃ b, b = !decide (TapC a) := ⟨_, rfl⟩
                have HTB := Lib.hid hTB
                clear hTB
                go_upto_region 26 with fail
                go_cut [177] (fun s wx => s = .bool TB ∧ w4 = wx)
                case first =>
                  as_aux_lemma =>
                    by_cases w6 : wh = 6
                    case pos =>
                      have hQ : TapC a ↔ tp = true := by unfold TapC; rw [← HWh.out, ← HTp0.out, w6]; simp
                      have HQ := Lib.hid (show TB = !tp by rw [HTB.out]; cases tp <;> simp [hQ])
                      have e6 : (wh == 6) = true := by simpa using w6
                      have n6 : (wh != 6) = false := by simpa using w6
                      clear w6 hQ q0 q6
                      cases tp
                      all_goals go_wp2_with fail
                      all_goals go_meet
                      all_goals exact ⟨by rw [HQ.out] <;> rfl, rfl⟩
                    have e6 : (wh == 6) = false := by simpa using w6
                    have n6 : (wh != 6) = true := by simpa using w6
                    by_cases w1' : wh = 1
                    case pos =>
                      have hQ : TapC a := by unfold TapC; rw [← HWh.out, w1']; simp
                      have HQ := Lib.hid (show TB = false by rw [HTB.out]; simp [hQ])
                      have n1 : (wh != 1) = false := by simpa using w1'
                      clear w6 w1' hQ q0 q6
                      go_wp2_with fail
                      all_goals go_meet
                      all_goals exact ⟨by rw [HQ.out] <;> rfl, rfl⟩
                    have hQ : TapC a ↔ tp = false := by unfold TapC; rw [← HWh.out, ← HTp0.out]; simp [w6, w1']
                    have HQ := Lib.hid (show TB = tp by rw [HTB.out]; cases tp <;> simp [hQ])
                    have n1 : (wh != 1) = true := by simpa using w1'
                    clear w6 w1' hQ q0 q6
                    cases tp
                    all_goals go_wp2_with fail
                    all_goals go_meet
                    all_goals exact ⟨by rw [HQ.out] <;> rfl, rfl⟩
                obtain ⟨rfl, rfl⟩ := hcut
                cases TB
                case true =>
                  replace HA := Lib.hid (HA.out.trans (if_pos (fun h => by have := HTB.out; simp [h] at this)))
                  have HTf := Lib.hid (HT.out.trans ((HSt.out (by rw [HA.out]; decide)).trans HA.out))
                  go_wp2_with fail
                  all_goals go_ret
                  all_goals exact ⟨by rw [HTf.out]; rfl, keepB hbw4 hb1⟩
                replace HA := Lib.hid (HA.out.trans (if_neg (fun h => by have := HTB.out; simp [h] at this)))
                obtain ⟨GB, hGB⟩ : ∃ b, b = !decide (TargC a) := ⟨_, rfl⟩
                have HGB := Lib.hid hGB
                clear hGB k7
                have hQ : TargC a ↔ ((0 ≤ tg ∧ tg ≤ 5) ∧ (tg = 0 ∨ wh = 0 ∨ wh = 1)) := by unfold TargC; rw [← HWh.out, ← HTg0.out]
                go_upto_region 28 with fail
                go_cut [200] (fun s wx => s = .bool GB ∧ w4 = wx)
                case first =>
                  as_aux_lemma =>
                    by_cases t0 : tg < 0
                    case pos =>
                      have HQ := Lib.hid (show GB = true by rw [HGB.out]; simp only [Bool.not_eq_true', decide_eq_false_iff_not]; rw [hQ]; omega)
                      have e0 : decide (tg < 0) = true := by simpa using t0
                      clear t0 hQ q0 q6
                      go_wp2_with fail
                      all_goals go_meet
                      all_goals exact ⟨by rw [HQ.out] <;> rfl, rfl⟩
                    have e0 : decide (tg < 0) = false := by simpa using t0
                    by_cases t5 : 5 < tg
                    case pos =>
                      have HQ := Lib.hid (show GB = true by rw [HGB.out]; simp only [Bool.not_eq_true', decide_eq_false_iff_not]; rw [hQ]; omega)
                      have e5 : decide (5 < tg) = true := by simpa using t5
                      clear t0 t5 hQ q0 q6
                      go_wp2_with fail
                      all_goals go_meet
                      all_goals exact ⟨by rw [HQ.out] <;> rfl, rfl⟩
                    have e5 : decide (5 < tg) = false := by simpa using t5
                    by_cases tz : tg = 0
                    case pos =>
                      have HQ := Lib.hid (show GB = false by rw [HGB.out]; simp only [Bool.not_eq_false', decide_eq_true_eq]; rw [hQ]; omega)
                      have ez : (tg != 0) = false := by simpa using tz
                      clear t0 t5 tz hQ q0 q6
                      go_wp2_with fail
                      all_goals go_meet
                      all_goals exact ⟨by rw [HQ.out] <;> rfl, rfl⟩
                    have ez : (tg != 0) = true := by simpa using tz
                    by_cases w0 : wh = 0
                    case pos =>
                      have HQ := Lib.hid (show GB = false by rw [HGB.out]; simp only [Bool.not_eq_false', decide_eq_true_eq]; rw [hQ]; omega)
                      have n0 : (wh != 0) = false := by simpa using w0
                      clear t0 t5 tz w0 hQ q0 q6
                      go_wp2_with fail
                      all_goals go_meet
                      all_goals exact ⟨by rw [HQ.out] <;> rfl, rfl⟩
                    have n0 : (wh != 0) = true := by simpa using w0
                    by_cases w1' : wh = 1
                    case pos =>
                      have HQ := Lib.hid (show GB = false by rw [HGB.out]; simp only [Bool.not_eq_false', decide_eq_true_eq]; rw [hQ]; omega)
                      have n1 : (wh != 1) = false := by simpa using w1'
                      clear t0 t5 tz w0 w1' hQ q0 q6
                      go_wp2_with fail
                      all_goals go_meet
                      all_goals exact ⟨by rw [HQ.out] <;> rfl, rfl⟩
                    have HQ := Lib.hid (show GB = true by rw [HGB.out]; simp only [Bool.not_eq_true', decide_eq_false_iff_not]; rw [hQ]; omega)
                    have n1 : (wh != 1) = true := by simpa using w1'
                    clear t0 t5 tz w0 w1' hQ q0 q6
                    go_wp2_with fail
                    all_goals go_meet
                    all_goals exact ⟨by rw [HQ.out] <;> rfl, rfl⟩
                obtain ⟨rfl, rfl⟩ := hcut
                clear hQ
                cases GB
                case true =>
                  replace HA := Lib.hid (HA.out.trans (if_pos (fun h => by have := HGB.out; simp [h] at this)))
                  have HTf := Lib.hid (HT.out.trans ((HSt.out (by rw [HA.out]; decide)).trans HA.out))
                  go_wp2_with fail
                  all_goals go_ret
                  all_goals exact ⟨by rw [HTf.out]; rfl, keepB hbw4 hb1⟩
                replace HA := Lib.hid (HA.out.trans (if_neg (fun h => by have := HGB.out; simp [h] at this)))
                go_upto_region 30 with fail
                go_wp2_with (refine wantDo (by rfl) (.tmp 201) rfl g 9 rfl xs hxs hdo ?_)
                have hcall := checkTopRef_any d a.do_ xs tg w4 hrx hsz
                rw [HTg0.out] at hcall
                obtain ⟨v, hv⟩ : ∃ v, v = chkTop a.do_ a.target := ⟨_, rfl⟩
                rw [← hv] at hcall HA
                rw [← HTg0.out] at hcall
                have HV := Lib.hid hv
                refine hcall.mono ?_
                rintro e w5 ⟨rfl, hb5⟩
                have hA5 := hA4.keep hb5
                have hbw5 := keepB hb5 hbw4
                have k0 := (show w5.cell? ⟨g, 0, none⟩ = w4.cell? ⟨g, 0, none⟩ by rw [hA5.cell, hA4.cell]).trans k0
                clear k8 hcall hv hdo
                by_cases hv0 : v = 0
                case neg =>
                  replace HA := Lib.hid (HA.out.trans (if_pos hv0))
                  have ev : (v != 0) = true := by simpa using hv0
                  have HVn := Lib.hid hv0
                  clear hv0
                  have HTf := Lib.hid (HT.out.trans ((HSt.out (by rw [HA.out]; exact HVn.out)).trans HA.out))
                  go_wp2_with fail
                  all_goals go_ret
                  all_goals exact ⟨by rw [HTf.out]; rfl, keepB hbw5 hb1⟩
                subst hv0
                replace HA := Lib.hid (HA.out.trans (if_neg (by simp)))
                obtain ⟨Ax, cx, hxe, _, _⟩ := hrx.shape
                have k9 : w5.cell? ⟨g, 9, none⟩ = some (.int .i64 a.do_.op) := by rw [hA5.cell, HYe.out]; exact (ab_op 0).trans (by rw [hxe]; rfl)
                have k12 : w5.cell? ⟨g, 12, none⟩ = some (.int .i64 a.do_.who) := by rw [hA5.cell, HYe.out]; exact (ab_op 3).trans (by rw [hxe]; rfl)
                clear hxe
                obtain ⟨op, hop⟩ : ∃ x, x = a.do_.op := ⟨_, rfl⟩
                obtain ⟨ew, hew⟩ : ∃ x, x = a.do_.who := ⟨_, rfl⟩
                rw [← hop] at k9
                rw [← hew] at k12
                have HOp := Lib.hid hop
                have HEw := Lib.hid hew
                obtain ⟨MB, hMB⟩ : ∃ b, b = !decide (MtC a) := ⟨_, rfl⟩
                have HMB := Lib.hid hMB
                clear hMB hop hew
                have hQ : MtC a ↔ (wh = 6 → op = 15 ∧ ew = 0) := by unfold MtC; rw [← HWh.out, ← HOp.out, ← HEw.out]
                go_upto_region 33 with fail
                go_cut [223] (fun s wx => s = .bool MB ∧ w5 = wx)
                case first =>
                  as_aux_lemma =>
                    by_cases w6 : wh = 6
                    case neg =>
                      have HQ := Lib.hid (show MB = false by rw [HMB.out]; simp [hQ, w6])
                      have e6 : (wh == 6) = false := by simpa using w6
                      clear w6 hQ q0 q6
                      go_wp2_with fail
                      all_goals go_meet
                      all_goals exact ⟨by rw [HQ.out] <;> rfl, rfl⟩
                    have e6 : (wh == 6) = true := by simpa using w6
                    by_cases o15 : op = 15
                    case neg =>
                      have HQ := Lib.hid (show MB = true by rw [HMB.out]; simp [hQ, w6, o15])
                      have e15 : (op != 15) = true := by simpa using o15
                      clear w6 o15 hQ q0 q6
                      go_wp2_with fail
                      all_goals go_meet
                      all_goals exact ⟨by rw [HQ.out] <;> rfl, rfl⟩
                    have e15 : (op != 15) = false := by simpa using o15
                    by_cases w0 : ew = 0
                    case neg =>
                      have HQ := Lib.hid (show MB = true by rw [HMB.out]; simp [hQ, w6, w0])
                      have e0 : (ew != 0) = true := by simpa using w0
                      clear w6 o15 w0 hQ q0 q6
                      go_wp2_with fail
                      all_goals go_meet
                      all_goals exact ⟨by rw [HQ.out] <;> rfl, rfl⟩
                    have HQ := Lib.hid (show MB = false by rw [HMB.out]; simp [hQ, o15, w0])
                    have e0 : (ew != 0) = false := by simpa using w0
                    clear w6 o15 w0 hQ q0 q6
                    go_wp2_with fail
                    all_goals go_meet
                    all_goals exact ⟨by rw [HQ.out] <;> rfl, rfl⟩
                obtain ⟨rfl, rfl⟩ := hcut
                clear hQ k12
                cases MB
                case true =>
                  replace HA := Lib.hid (HA.out.trans (if_pos (fun h => by have := HMB.out; simp [h] at this)))
                  have HTf := Lib.hid (HT.out.trans ((HSt.out (by rw [HA.out]; decide)).trans HA.out))
                  go_wp2_with fail
                  all_goals go_ret
                  all_goals exact ⟨by rw [HTf.out]; rfl, keepB hbw5 hb1⟩
                replace HA := Lib.hid (HA.out.trans (if_neg (fun h => by have := HMB.out; simp [h] at this)))
                by_cases hw5 : wh = 5
                case neg =>
                  replace HA := Lib.hid (HA.out.trans (if_neg (not_not_intro (show StC a from fun h => absurd (HWh.out.trans h) hw5))))
                  have HNx := Lib.hid ((HTk.out).trans HA.out)
                  have e5 : (wh == 5) = false := by simpa using hw5
                  clear hw5
                  go_wp2_with fail
                  go_roundw
                  case rel => exact ⟨k + 1, by go_num, HNx.out, by omega, hbw5⟩
                  case measure => simp [intOf]; omega
                have HW5 := Lib.hid (HWh.out.symm.trans hw5)
                have e5 : (wh == 5) = true := by simpa using hw5
                clear hw5 q0 q6
                by_cases o20 : op = 20
                case neg =>
                  replace HA := Lib.hid (HA.out.trans (if_pos (fun h => o20 (HOp.out.trans (h HW5.out).1))))
                  have e : (op == 20) = false := by simpa using o20
                  clear o20
                  have HTf := Lib.hid (HT.out.trans ((HSt.out (by rw [HA.out]; decide)).trans HA.out))
                  go_wp2_with fail
                  all_goals go_ret
                  all_goals exact ⟨by rw [HTf.out]; rfl, keepB hbw5 hb1⟩
                have e20 : (op == 20) = true := by simpa using o20
                obtain ⟨x, hx1⟩ := chk_all HV.out.symm (HOp.out.symm.trans o20)
                obtain ⟨b, o, cx2, hx4, hbx, hxo⟩ := reads_sub (hrx.grow hb5) hx1
                have k13 : w5.cell? ⟨g, 13, none⟩ = some (.slice (some ⟨b, o, none⟩) 1 cx2) := by rw [hA5.cell, HYe.out]; exact (ab_op 4).trans hx4
                obtain ⟨z, hz⟩ : ∃ z, z = x.op := ⟨_, rfl⟩
                rw [← hz] at hxo
                have HZ := Lib.hid (show headOp a.do_.subs = z by rw [hx1, hz]; rfl)
                have HO := Lib.hid (HOp.out.symm.trans o20)
                clear o20 hx1 hx4 hz
                by_cases ok : z = 10 ∨ z = 23 ∨ z = 24 ∨ z = 25
                case neg =>
                  replace HA := Lib.hid (HA.out.trans (if_pos (fun h => ok (by have := (h HW5.out).2; rw [HZ.out] at this; exact this))))
                  have m0 : (z != 10) = true := by simp; omega
                  have m1 : (z != 23) = true := by simp; omega
                  have m2 : (z != 24) = true := by simp; omega
                  have m3 : (z != 25) = true := by simp; omega
                  clear ok
                  have HTf := Lib.hid (HT.out.trans ((HSt.out (by rw [HA.out]; decide)).trans HA.out))
                  go_wp2_with fail
                  all_goals go_ret
                  all_goals exact ⟨by rw [HTf.out]; rfl, keepB hbw5 hb1⟩
                replace HA := Lib.hid (HA.out.trans (if_neg (not_not_intro (show StC a from fun _ => ⟨HO.out, by rw [HZ.out]; exact ok⟩))))
                have HNx := Lib.hid ((HTk.out).trans HA.out)
                rcases ok with rfl | rfl | rfl | rfl
                case inl =>
                  go_wp2_with fail
                  go_roundw
                  case rel => exact ⟨k + 1, by go_num, HNx.out, by omega, hbw5⟩
                  case measure => simp [intOf]; omega
                case inr.inl =>
                  go_wp2_with fail
                  go_roundw
                  case rel => exact ⟨k + 1, by go_num, HNx.out, by omega, hbw5⟩
                  case measure => simp [intOf]; omega
                case inr.inr.inl =>
                  go_wp2_with fail
                  go_roundw
                  case rel => exact ⟨k + 1, by go_num, HNx.out, by omega, hbw5⟩
                  case measure => simp [intOf]; omega
                case inr.inr.inr =>
                  go_wp2_with fail
                  go_roundw
                  case rel => exact ⟨k + 1, by go_num, HNx.out, by omega, hbw5⟩
                  case measure => simp [intOf]; omega
              · obtain rfl : k = c.abs.length := by omega
                have hd : decide ((c.abs.length : Int) < (c.abs.length : Int)) = false := by simp
                have hz : chkAs c.abs = 0 := by
                  have h := H0.out
                  rw [List.take_length] at h
                  exact h
                replace H0 := Lib.hid (HT.out.trans hz)
                clear hz
                go_wp2_with fail
                go_ret
                exact ⟨by rw [H0.out]; rfl, keepB hb hb1⟩
end Go.Proofs.Ytnlhblnkckkeiaa
