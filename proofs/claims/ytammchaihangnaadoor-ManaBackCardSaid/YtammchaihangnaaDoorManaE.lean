/- Layer 4: the reference's Parse. -/
import Derived.Test.YtammchaihangnaaDoorManaD
import Derived.Test.YtammchaihangnaaDoorManaPMath
import Derived.Deep.DeepCutAuto
import Derived.Lib.Strings
import Derived.Lib.IndexBytes
namespace Go.Proofs.YtammchaihangnaaDoor
open Go.RowKit Mx
attribute [local go_sem] arr_get
theorem allDig_next {l : List UInt8} {i : Nat} {b : UInt8} (h : AllDig (l.take i)) (hb : l[i]? = some b) (hd : Dig b) : AllDig (l.take (i + 1)) := by
  rw [List.take_add_one, hb]
  intro x hx
  simp only [List.mem_append, Option.toList_some, List.mem_cons, List.not_mem_nil, or_false] at hx
  rcases hx with hx | rfl
  · exact h x hx
  · exact hd
theorem capV_next {l : List UInt8} {i : Nat} {b : UInt8} (hb : l[i]? = some b) : capV (l.take (i + 1)) = if 2000 < capV (l.take i) * 10 + ((b.toNat : Int) - 48) then 2000 else capV (l.take i) * 10 + ((b.toNat : Int) - 48) := by
  rw [List.take_add_one, hb]; exact capV_snoc _ _
def DRel (w2 : World) (s : List UInt8) (i n : Value) (wr : World) : Prop := ∃ d : Nat, i = .int .i64 ((d : Nat) : Int) ∧ n = .int .i64 (capV (s.take d)) ∧ d ≤ s.length ∧ AllDig (s.take d) ∧ wr = w2
/-- The letters' block. -/
def lettersV : Array Value := #[.int .u8 87, .int .u8 85, .int .u8 66, .int .u8 82, .int .u8 71]
/-- What stands in memory while letters are counted. -/
structure StP (w : World) (g : Nat → Int) (wr : World) : Prop where
  c : ArrAt .i64 6 23 wr (w.heap.size + 1) g
  r : ArrAt .i64 6 23 wr w.heap.size zeroC
  l : wr.heap[w.heap.size + 2]? = some (.cells lettersV 5 (0, 0))
  b : Below w.heap.size w wr
def cF (r : List UInt8) (v : Int) (k : Nat) : Nat → Int := fun j => if j < k then (cntN r j : Int) else if j = 5 then v else 0
def ORel (w : World) (l r : List UInt8) (v : Int) (i kk : Value) (wr : World) : Prop :=
  ∃ i' k : Nat, kk = .int .i64 ((k : Nat) : Int) ∧ i = .int .i64 ((i' : Nat) : Int) ∧ k ≤ 5 ∧ i' ≤ l.length ∧ l.drop i' = restN r k ∧ StP w (cF r v k) wr
def IRel (w : World) (l r : List UInt8) (v : Int) (k : Nat) (i : Value) (wr : World) : Prop :=
  ∃ i' m : Nat, i = .int .i64 ((i' : Nat) : Int) ∧ i' ≤ l.length ∧ m ≤ i' ∧ m + (eat (letN k) (l.drop i')).1 = cntN r k ∧ (eat (letN k) (l.drop i')).2 = restN r (k + 1) ∧ StP w (updI (cF r v k) k m) wr
theorem StP.set_ {w wr : World} {g : Nat → Int} (h : StP w g wr) (j : Nat) (x : Int) : StP w (updI g j x) (wr.setCell ⟨w.heap.size + 1, j, none⟩ (.int .i64 x)) where
  c := h.c.set_ j x
  r := h.r.far (by simp) _
  l := (Below.heap_setCell wr _ _ _ (by simp)).trans h.l
  b := h.b.setCell (by simp) _
theorem StP.congr {w wr : World} {g g' : Nat → Int} (h : StP w g wr) (e : ∀ i, i < 6 → g i = g' i) : StP w g' wr := { h with c := h.c.congr e }
theorem cF_self {r : List UInt8} {v : Int} {k : Nat} (hk : k < 5) : cF r v k k = 0 := by
  unfold cF; rw [if_neg (by omega), if_neg (by omega)]
theorem cF_start {r : List UInt8} {v : Int} {k : Nat} (hk : k < 5) : ∀ i, i < 6 → cF r v k i = updI (cF r v k) k ((0 : Nat) : Int) i := by
  intro i _
  unfold updI; split
  · rename_i h; rw [h, cF_self hk]; rfl
  · rfl
theorem cF_next {r : List UInt8} {v : Int} {k : Nat} (hk : k < 5) : ∀ i, i < 6 → updI (cF r v k) k (cntN r k : Nat) i = cF r v (k + 1) i := by
  intro i _
  unfold updI cF; split
  · rename_i h; subst h; rw [if_pos (by omega)]
  · by_cases h : i < k
    · rw [if_pos h, if_pos (by omega)]
    · rw [if_neg h, if_neg (show ¬ i < k + 1 by omega)]
theorem StP.next {w wr : World} {r : List UInt8} {v : Int} {k m : Nat} (h : StP w (updI (cF r v k) k m) wr) (hk : k < 5) (hm : m = cntN r k) : StP w (cF r v (k + 1)) wr := by
  subst hm; exact h.congr (cF_next hk)
theorem cF_end {r : List UInt8} {v : Int} : ∀ i, i < 6 → cF r v 5 i = foundC r v i := by
  intro i hi
  unfold cF foundC
  split
  · rfl
  · rw [if_pos (by omega)]
theorem eat_step {l : List UInt8} {i : Nat} {b : UInt8} (h : l[i]? = some b) : (eat b (l.drop i)).1 = (eat b (l.drop (i + 1))).1 + 1 ∧ (eat b (l.drop i)).2 = (eat b (l.drop (i + 1))).2 := by
  obtain ⟨h1, h2⟩ := List.getElem?_eq_some_iff.1 h
  rw [List.drop_eq_getElem_cons h1, h2]
  simp [eat]
theorem eat_stop {l : List UInt8} {i : Nat} {b : UInt8} (h : l[i]? ≠ some b) : (eat b (l.drop i)).1 = 0 ∧ (eat b (l.drop i)).2 = l.drop i := by
  cases hd : l.drop i with
  | nil => simp [eat]
  | cons x t =>
    have hx : l[i]? = some x := by
      have := congrArg (·[0]?) hd
      simpa [List.getElem?_drop] using this
    rw [hx] at h
    have : x ≠ b := fun e => h (by rw [e])
    simp [eat, this]
set_option linter.unusedSimpArgs false in
set_option maxRecDepth 100000 in
set_option maxHeartbeats 2000000 in
theorem parseRef_any (s : ByteArray) (w : World) (hs : s.size ≤ 300) : Calls Tryd.prog 18 #[.string s] w (ParsePost s.data.toList (fun k => .int .i64 k) w) := by
  have hsz0 : (Tryd.prog.info? 23).map (·.size) = some (arr .i64 6 zeroC).size := by rw [arr_size]; exact size6
  have h1c := arr_one .i64 6 zeroC
  have hz := zero6
  have hlen : s.data.toList.length = s.size := (Lib.size_eq s).symm
  obtain ⟨l, hl⟩ : ∃ l, l = s.data.toList := ⟨_, rfl⟩
  have hidx := index_str s
  rw [← hl] at hidx hlen ⊢
  have HI := Lib.hid hidx
  clear hidx hl
  go_enter Tryd.func18, Tryd.ntmps18
  go_upto_region 1 with fail
  obtain ⟨w1, hw1⟩ : ∃ w1, w1 = w.alloc (.cells (arr .i64 6 zeroC) 23) := ⟨_, rfl⟩
  have hr1 : ArrAt .i64 6 23 w1 w.heap.size zeroC := by rw [hw1]; exact ArrAt.new _ _ _ _ _
  have hs1 : w1.heap.size = w.heap.size + 1 := by rw [hw1]; simp
  have hb1 : Below w.heap.size w w1 := by rw [hw1]; exact (Below.refl _ _).alloc (Nat.le_refl _) _
  rw [← hw1]
  clear hw1
  have hnew : (w1.alloc (.cells (arr .i64 6 zeroC) 23)).heap[w.heap.size + 1]? = some (.cells (arr .i64 6 zeroC) 23 (0, 0)) := by rw [← hs1]; exact heap_alloc_new _ _
  go_upto_region 2 with (refine wpList_store_row rfl 23 (.tmp 4) (.tmp 9) rfl (w.heap.size + 1) _ rfl rfl 23 (arr .i64 6 zeroC) hnew hsz0 rfl h1c ?_)
  obtain ⟨w2, hw2⟩ : ∃ w2, w2 = (w1.alloc (.cells (arr .i64 6 zeroC) 23)).setRow (w.heap.size + 1) (arr .i64 6 zeroC) := ⟨_, rfl⟩
  have hr2 : ArrAt .i64 6 23 w2 w.heap.size zeroC := by rw [hw2]; exact (hr1.alloc _).farRow (by omega) _
  have hc2 : ArrAt .i64 6 23 w2 (w.heap.size + 1) zeroC := by rw [hw2]; exact ArrAt.setRow (show ArrAt .i64 6 23 _ _ _ from hnew) _
  have hs2 : w2.heap.size = w.heap.size + 2 := by rw [hw2]; simp [hs1]
  have hb2 : Below w.heap.size w w2 := by rw [hw2]; exact below_setRow (hb1.alloc (by omega) _) _ _ (by omega)
  rw [← hw2]
  have HR := Lib.hid hr2
  have HC := Lib.hid hc2
  clear hnew hw2 hr1 hb1 hs1 hr2 hc2 hsz0 h1c
  go_loopw [5, 6] (fun i n wr => DRel w2 l i n wr) (fun i _ _ => s.size - (intOf i).toNat)
  case atStart => exact ⟨0, rfl, rfl, by omega, (by intro b hb; cases hb), rfl⟩
  case round =>
    obtain ⟨d, rfl, rfl, hd, had, rfl⟩ := hrel
    have HD := Lib.hid had
    obtain ⟨v0, v1⟩ := capV_range _ had
    obtain ⟨v, hv⟩ : ∃ v, v = capV (l.take d) := ⟨_, rfl⟩
    rw [← hv] at v0 v1 ⊢
    have HV := Lib.hid hv
    clear had hv
    obtain ⟨B, hB⟩ : ∃ B : Bool, B = true ↔ ∃ b, l[d]? = some b ∧ Dig b := by
      by_cases h : ∃ b, l[d]? = some b ∧ Dig b
      · exact ⟨true, by simp [h]⟩
      · exact ⟨false, by simp [h]⟩
    have HB := Lib.hid hB
    clear hB
    go_upto_region 2 with fail
    go_cut [25] (fun s25 wx => s25 = .bool B ∧ wr = wx)
    case first =>
      by_cases hlt : d < s.size
      · obtain ⟨b, hb⟩ : ∃ b, l[d]? = some b := ⟨_, List.getElem?_eq_getElem (by omega)⟩
        have hix := fun W => HI.out d b hb W
        have hBv : B = decide (48 ≤ b.toNat ∧ b.toNat ≤ 57) := by
          have := HB.out
          rw [hb] at this
          simp only [Option.some.injEq, exists_eq_left'] at this
          cases B
          · symm; rw [decide_eq_false_iff_not]; intro h; exact absurd (this.2 h) (by decide)
          · symm; rw [decide_eq_true_iff]; exact this.1 rfl
        obtain ⟨x, hx⟩ : ∃ x : Int, (b.toNat : Int) = x := ⟨_, rfl⟩
        have hB2 : B = (decide (48 ≤ x) && decide (x ≤ 57)) := by
          rw [hBv, ← hx]
          by_cases h1 : 48 ≤ b.toNat <;> by_cases h2 : b.toNat ≤ 57 <;> simp [h1, h2] <;> omega
        rw [hx] at hix
        clear hx hBv
        have HB2 := Lib.hid hB2
        clear hB2
        go_wp2_with fail
        all_goals go_meet
        all_goals exact ⟨by rw [HB2.out]; first | (simp [*]; done) | (simp [*]; omega), rfl⟩
      · have hBf : B = false := by
          cases h : B
          · rfl
          · obtain ⟨b, hb, _⟩ := HB.out.1 h
            have := (List.getElem?_eq_some_iff.1 hb).1
            omega
        subst hBf
        go_wp2_with fail
        go_meet
        exact ⟨rfl, rfl⟩
    case rest =>
      obtain ⟨rfl, rfl⟩ := hcut
      cases hBc : B
      · have hno : ∀ b, l[d]? = some b → ¬ Dig b := fun b hb hd => by
          have := HB.out.2 ⟨b, hb, hd⟩
          rw [hBc] at this; cases this
        have HNo := Lib.hid hno
        clear hno
        subst hBc
        obtain ⟨bad, hbad⟩ : ∃ bad : Bool, bad = true ↔ Bad l d v := by
          by_cases h : Bad l d v
          · exact ⟨true, by simp [h]⟩
          · exact ⟨false, by simp [h]⟩
        have HBad := Lib.hid hbad
        clear hbad
        go_upto_region 5 with fail
        go_cut [66] (fun s66 wx => s66 = .bool bad ∧ wr = wx)
        case first =>
          by_cases h0 : 0 < s.size
          · obtain ⟨b, hb⟩ : ∃ b, l[0]? = some b := ⟨_, List.getElem?_eq_getElem (by omega)⟩
            have hix := HI.out 0 b hb
            rw [Int.natCast_zero] at hix
            obtain ⟨x, hx⟩ : ∃ x : Int, (b.toNat : Int) = x := ⟨_, rfl⟩
            have hx48 : (l[0]? = some 48) ↔ x = 48 := by
              rw [hb, ← hx]
              constructor
              · intro h; rw [Option.some.inj h]; rfl
              · intro h; congr 1; apply UInt8.toNat_inj.1; show b.toNat = 48; omega
            have hbv := HBad.out
            unfold Bad at hbv
            rw [hx48, hlen] at hbv
            rw [hx] at hix
            have HBV := Lib.hid hbv
            clear hbv hx48 hx hb
            have hd3 : d = 0 ∨ d = 1 ∨ 1 < d := by omega
            rcases hd3 with hd3 | hd3 | hd3
            · subst hd3
              go_wp2_with fail
              all_goals go_meet
              all_goals refine ⟨congrArg Value.bool ?_, rfl⟩
              all_goals rw [Bool.eq_iff_iff, HBV.out]
              all_goals simp only [Bool.or_eq_true, Bool.and_eq_true, decide_eq_true_eq, beq_iff_eq, eq_self, true_iff, true_and]
              all_goals omega
            · subst hd3
              by_cases e48 : x = 48
              · have q48 : (x == 48) = true := by simp [e48]
                go_wp2_with fail
                all_goals go_meet
                all_goals refine ⟨congrArg Value.bool ?_, rfl⟩
                all_goals rw [Bool.eq_iff_iff, HBV.out]
                all_goals simp only [Bool.or_eq_true, Bool.and_eq_true, decide_eq_true_eq, beq_iff_eq, eq_self, true_iff, true_and]
                all_goals omega
              · have q48 : (x == 48) = false := by simp [e48]
                go_wp2_with fail
                all_goals go_meet
                all_goals refine ⟨congrArg Value.bool ?_, rfl⟩
                all_goals rw [Bool.eq_iff_iff, HBV.out]
                all_goals simp only [Bool.or_eq_true, Bool.and_eq_true, decide_eq_true_eq, beq_iff_eq, eq_self, true_iff, true_and]
                all_goals omega
            · skip
              by_cases e48 : x = 48
              · have q48 : (x == 48) = true := by simp [e48]
                go_wp2_with fail
                all_goals go_meet
                all_goals refine ⟨congrArg Value.bool ?_, rfl⟩
                all_goals rw [Bool.eq_iff_iff, HBV.out]
                all_goals simp only [Bool.or_eq_true, Bool.and_eq_true, decide_eq_true_eq, beq_iff_eq, eq_self, true_iff, true_and]
                all_goals omega
              · have q48 : (x == 48) = false := by simp [e48]
                go_wp2_with fail
                all_goals go_meet
                all_goals refine ⟨congrArg Value.bool ?_, rfl⟩
                all_goals rw [Bool.eq_iff_iff, HBV.out]
                all_goals simp only [Bool.or_eq_true, Bool.and_eq_true, decide_eq_true_eq, beq_iff_eq, eq_self, true_iff, true_and]
                all_goals omega
          · have hbt : bad = true := HBad.out.2 (.inr (.inr (.inr (by omega))))
            have hd0 : d = 0 := by omega
            subst hbt hd0
            have e1 : s.size = 0 := by omega
            go_wp2_with fail
            all_goals go_meet
            all_goals exact ⟨rfl, rfl⟩
        case rest =>
          obtain ⟨rfl, rfl⟩ := hcut
          cases hbc : bad
          · have hnb : ¬ Bad l d (capV (l.take d)) := fun h => by
              rw [← HV.out] at h
              have := HBad.out.2 h
              rw [hbc] at this; cases this
            have HNB := Lib.hid hnb
            have q1 := HC.out.cell (i := 5) (by omega)
            have q2 := HC.out.frozen 5
            obtain ⟨r, hr⟩ : ∃ r, r = l.drop d := ⟨_, rfl⟩
            have HRd := Lib.hid hr
            clear hnb hr
            subst hbc
            have hst0 : StP w (cF r v 0) ((wr.setCell ⟨w.heap.size + 1, 5, none⟩ (.int .i64 v)).alloc (.cells lettersV 5)) := by
              have e1 : (wr.setCell ⟨w.heap.size + 1, 5, none⟩ (.int .i64 v)).heap.size = w.heap.size + 2 := by rw [← hs2]; simp
              refine ⟨(((HC.out.set_ 5 v).alloc _).congr fun i hi => ?_), ((HR.out.far (by simp) _).alloc _), by rw [← e1]; exact heap_alloc_new _ _, (hb2.setCell (by simp) _).alloc (by omega) _⟩
              unfold updI cF zeroC; rw [if_neg (show ¬ i < 0 by omega)]
            have HST0 := Lib.hid hst0
            clear hst0
            go_upto_region 9 with fail
            obtain ⟨w4, hw4⟩ : ∃ w4, w4 = (wr.setCell ⟨w.heap.size + 1, 5, none⟩ (.int .i64 v)).alloc (.cells lettersV 5) := ⟨_, rfl⟩
            rw [← hw4] at HST0
            unfold lettersV at hw4
            rw [← hw4]
            clear hw4
            go_loopw [5, 72] (fun i kk wq => ORel w l r v i kk wq) (fun _ kk _ => 5 - (intOf kk).toNat)
            case atStart => exact ⟨d, 0, rfl, rfl, by omega, by omega, by rw [HRd.out]; rfl, HST0.out⟩
            case round =>
              obtain ⟨i', k, rfl, rfl, hk, hi, hdr, hst⟩ := hrel
              have HDR := Lib.hid hdr
              have HSt := Lib.hid hst
              clear hdr hst HST0
              by_cases hlt5 : k < 5
              · have hk5 : k = 0 ∨ k = 1 ∨ k = 2 ∨ k = 3 ∨ k = 4 := by omega
                rcases hk5 with rfl | rfl | rfl | rfl | rfl
                · have hq := cell_of_row _ (w.heap.size + 2) 0 _ _ _ HSt.out.l
                  simp only [lettersV, List.getElem?_toArray, List.getElem?_cons_zero, List.getElem?_cons_succ] at hq
                  go_wp2_with fail
                  go_loopw [5] (fun i wz => IRel w l r v 0 i wz) (fun i _ => s.size - (intOf i).toNat)
                  case atStart => exact ⟨i', 0, rfl, hi, Nat.zero_le _, by rw [HDR.out]; exact Nat.zero_add _, by rw [HDR.out]; rfl, HSt.out.congr (cF_start (by omega))⟩
                  case round =>
                    obtain ⟨i2, m, rfl, hi2, hm, he1, he2, hst⟩ := hrel
                    have HE1 := Lib.hid he1
                    have HE2 := Lib.hid he2
                    have q1 := hst.c.cell (i := 0) (by omega)
                    have q2 := hst.c.frozen 0
                    rw [updI_at] at q1
                    have HS2 := Lib.hid hst
                    clear hst he1 he2
                    by_cases hb : l[i2]? = some (letN 0)
                    · have hlt : i2 < s.size := by rw [← hlen]; exact (List.getElem?_eq_some_iff.1 hb).1
                      have hix : ∀ W, (Instr.index 9 (.string s) (.int .i64 ((i2 : Nat) : Int))).run Tryd.prog W = .ok (.int .u8 87) W := HI.out i2 _ hb
                      have HE := Lib.hid (eat_step hb)
                      have HS3 := Lib.hid (HS2.out.set_ 0 ((m : Int) + 1))
                      clear hb
                      go_wp2_with fail
                      go_roundw
                      case rel => exact ⟨i2 + 1, m + 1, by go_num, by omega, by omega, by have h1 := HE1.out; have h2 := HE.out.1; omega, by rw [← HE.out.2]; exact HE2.out, by have h := HS3.out; rw [updI_upd] at h; exact h⟩
                      case measure => simp [intOf]; omega
                    · have HE := Lib.hid (eat_stop hb)
                      have HS3 := Lib.hid (HS2.out.next (by omega) (by have h1 := HE1.out; rw [HE.out.1, Nat.add_zero] at h1; exact h1))
                      have HD3 := Lib.hid (show l.drop i2 = restN r (0 + 1) from by rw [← HE2.out, HE.out.2])
                      clear q1 q2
                      by_cases hlt : i2 < s.size
                      · obtain ⟨b, hb2⟩ : ∃ b, l[i2]? = some b := ⟨_, List.getElem?_eq_getElem (by omega)⟩
                        have hix := HI.out i2 _ hb2
                        have hne : ¬ ((b.toNat : Int) = 87) := by
                          intro e
                          apply hb
                          rw [hb2]
                          congr 1
                          apply UInt8.toNat_inj.1
                          show b.toNat = 87
                          omega
                        obtain ⟨x, hx⟩ : ∃ x : Int, (b.toNat : Int) = x := ⟨_, rfl⟩
                        rw [hx] at hix hne
                        clear hb2 hb hx
                        go_wp2_with fail
                        go_roundw
                        case rel => exact ⟨i2, 0 + 1, by go_num, rfl, by omega, by omega, HD3.out, HS3.out⟩
                        case measure => simp [intOf]
                      · clear hb
                        go_wp2_with fail
                        go_roundw
                        case rel => exact ⟨i2, 0 + 1, by go_num, rfl, by omega, by omega, HD3.out, HS3.out⟩
                        case measure => simp [intOf]
                · have hq := cell_of_row _ (w.heap.size + 2) 1 _ _ _ HSt.out.l
                  simp only [lettersV, List.getElem?_toArray, List.getElem?_cons_zero, List.getElem?_cons_succ] at hq
                  go_wp2_with fail
                  go_loopw [5] (fun i wz => IRel w l r v 1 i wz) (fun i _ => s.size - (intOf i).toNat)
                  case atStart => exact ⟨i', 0, rfl, hi, Nat.zero_le _, by rw [HDR.out]; exact Nat.zero_add _, by rw [HDR.out]; rfl, HSt.out.congr (cF_start (by omega))⟩
                  case round =>
                    obtain ⟨i2, m, rfl, hi2, hm, he1, he2, hst⟩ := hrel
                    have HE1 := Lib.hid he1
                    have HE2 := Lib.hid he2
                    have q1 := hst.c.cell (i := 1) (by omega)
                    have q2 := hst.c.frozen 1
                    rw [updI_at] at q1
                    have HS2 := Lib.hid hst
                    clear hst he1 he2
                    by_cases hb : l[i2]? = some (letN 1)
                    · have hlt : i2 < s.size := by rw [← hlen]; exact (List.getElem?_eq_some_iff.1 hb).1
                      have hix : ∀ W, (Instr.index 9 (.string s) (.int .i64 ((i2 : Nat) : Int))).run Tryd.prog W = .ok (.int .u8 85) W := HI.out i2 _ hb
                      have HE := Lib.hid (eat_step hb)
                      have HS3 := Lib.hid (HS2.out.set_ 1 ((m : Int) + 1))
                      clear hb
                      go_wp2_with fail
                      go_roundw
                      case rel => exact ⟨i2 + 1, m + 1, by go_num, by omega, by omega, by have h1 := HE1.out; have h2 := HE.out.1; omega, by rw [← HE.out.2]; exact HE2.out, by have h := HS3.out; rw [updI_upd] at h; exact h⟩
                      case measure => simp [intOf]; omega
                    · have HE := Lib.hid (eat_stop hb)
                      have HS3 := Lib.hid (HS2.out.next (by omega) (by have h1 := HE1.out; rw [HE.out.1, Nat.add_zero] at h1; exact h1))
                      have HD3 := Lib.hid (show l.drop i2 = restN r (1 + 1) from by rw [← HE2.out, HE.out.2])
                      clear q1 q2
                      by_cases hlt : i2 < s.size
                      · obtain ⟨b, hb2⟩ : ∃ b, l[i2]? = some b := ⟨_, List.getElem?_eq_getElem (by omega)⟩
                        have hix := HI.out i2 _ hb2
                        have hne : ¬ ((b.toNat : Int) = 85) := by
                          intro e
                          apply hb
                          rw [hb2]
                          congr 1
                          apply UInt8.toNat_inj.1
                          show b.toNat = 85
                          omega
                        obtain ⟨x, hx⟩ : ∃ x : Int, (b.toNat : Int) = x := ⟨_, rfl⟩
                        rw [hx] at hix hne
                        clear hb2 hb hx
                        go_wp2_with fail
                        go_roundw
                        case rel => exact ⟨i2, 1 + 1, by go_num, rfl, by omega, by omega, HD3.out, HS3.out⟩
                        case measure => simp [intOf]
                      · clear hb
                        go_wp2_with fail
                        go_roundw
                        case rel => exact ⟨i2, 1 + 1, by go_num, rfl, by omega, by omega, HD3.out, HS3.out⟩
                        case measure => simp [intOf]
                · have hq := cell_of_row _ (w.heap.size + 2) 2 _ _ _ HSt.out.l
                  simp only [lettersV, List.getElem?_toArray, List.getElem?_cons_zero, List.getElem?_cons_succ] at hq
                  go_wp2_with fail
                  go_loopw [5] (fun i wz => IRel w l r v 2 i wz) (fun i _ => s.size - (intOf i).toNat)
                  case atStart => exact ⟨i', 0, rfl, hi, Nat.zero_le _, by rw [HDR.out]; exact Nat.zero_add _, by rw [HDR.out]; rfl, HSt.out.congr (cF_start (by omega))⟩
                  case round =>
                    obtain ⟨i2, m, rfl, hi2, hm, he1, he2, hst⟩ := hrel
                    have HE1 := Lib.hid he1
                    have HE2 := Lib.hid he2
                    have q1 := hst.c.cell (i := 2) (by omega)
                    have q2 := hst.c.frozen 2
                    rw [updI_at] at q1
                    have HS2 := Lib.hid hst
                    clear hst he1 he2
                    by_cases hb : l[i2]? = some (letN 2)
                    · have hlt : i2 < s.size := by rw [← hlen]; exact (List.getElem?_eq_some_iff.1 hb).1
                      have hix : ∀ W, (Instr.index 9 (.string s) (.int .i64 ((i2 : Nat) : Int))).run Tryd.prog W = .ok (.int .u8 66) W := HI.out i2 _ hb
                      have HE := Lib.hid (eat_step hb)
                      have HS3 := Lib.hid (HS2.out.set_ 2 ((m : Int) + 1))
                      clear hb
                      go_wp2_with fail
                      go_roundw
                      case rel => exact ⟨i2 + 1, m + 1, by go_num, by omega, by omega, by have h1 := HE1.out; have h2 := HE.out.1; omega, by rw [← HE.out.2]; exact HE2.out, by have h := HS3.out; rw [updI_upd] at h; exact h⟩
                      case measure => simp [intOf]; omega
                    · have HE := Lib.hid (eat_stop hb)
                      have HS3 := Lib.hid (HS2.out.next (by omega) (by have h1 := HE1.out; rw [HE.out.1, Nat.add_zero] at h1; exact h1))
                      have HD3 := Lib.hid (show l.drop i2 = restN r (2 + 1) from by rw [← HE2.out, HE.out.2])
                      clear q1 q2
                      by_cases hlt : i2 < s.size
                      · obtain ⟨b, hb2⟩ : ∃ b, l[i2]? = some b := ⟨_, List.getElem?_eq_getElem (by omega)⟩
                        have hix := HI.out i2 _ hb2
                        have hne : ¬ ((b.toNat : Int) = 66) := by
                          intro e
                          apply hb
                          rw [hb2]
                          congr 1
                          apply UInt8.toNat_inj.1
                          show b.toNat = 66
                          omega
                        obtain ⟨x, hx⟩ : ∃ x : Int, (b.toNat : Int) = x := ⟨_, rfl⟩
                        rw [hx] at hix hne
                        clear hb2 hb hx
                        go_wp2_with fail
                        go_roundw
                        case rel => exact ⟨i2, 2 + 1, by go_num, rfl, by omega, by omega, HD3.out, HS3.out⟩
                        case measure => simp [intOf]
                      · clear hb
                        go_wp2_with fail
                        go_roundw
                        case rel => exact ⟨i2, 2 + 1, by go_num, rfl, by omega, by omega, HD3.out, HS3.out⟩
                        case measure => simp [intOf]
                · have hq := cell_of_row _ (w.heap.size + 2) 3 _ _ _ HSt.out.l
                  simp only [lettersV, List.getElem?_toArray, List.getElem?_cons_zero, List.getElem?_cons_succ] at hq
                  go_wp2_with fail
                  go_loopw [5] (fun i wz => IRel w l r v 3 i wz) (fun i _ => s.size - (intOf i).toNat)
                  case atStart => exact ⟨i', 0, rfl, hi, Nat.zero_le _, by rw [HDR.out]; exact Nat.zero_add _, by rw [HDR.out]; rfl, HSt.out.congr (cF_start (by omega))⟩
                  case round =>
                    obtain ⟨i2, m, rfl, hi2, hm, he1, he2, hst⟩ := hrel
                    have HE1 := Lib.hid he1
                    have HE2 := Lib.hid he2
                    have q1 := hst.c.cell (i := 3) (by omega)
                    have q2 := hst.c.frozen 3
                    rw [updI_at] at q1
                    have HS2 := Lib.hid hst
                    clear hst he1 he2
                    by_cases hb : l[i2]? = some (letN 3)
                    · have hlt : i2 < s.size := by rw [← hlen]; exact (List.getElem?_eq_some_iff.1 hb).1
                      have hix : ∀ W, (Instr.index 9 (.string s) (.int .i64 ((i2 : Nat) : Int))).run Tryd.prog W = .ok (.int .u8 82) W := HI.out i2 _ hb
                      have HE := Lib.hid (eat_step hb)
                      have HS3 := Lib.hid (HS2.out.set_ 3 ((m : Int) + 1))
                      clear hb
                      go_wp2_with fail
                      go_roundw
                      case rel => exact ⟨i2 + 1, m + 1, by go_num, by omega, by omega, by have h1 := HE1.out; have h2 := HE.out.1; omega, by rw [← HE.out.2]; exact HE2.out, by have h := HS3.out; rw [updI_upd] at h; exact h⟩
                      case measure => simp [intOf]; omega
                    · have HE := Lib.hid (eat_stop hb)
                      have HS3 := Lib.hid (HS2.out.next (by omega) (by have h1 := HE1.out; rw [HE.out.1, Nat.add_zero] at h1; exact h1))
                      have HD3 := Lib.hid (show l.drop i2 = restN r (3 + 1) from by rw [← HE2.out, HE.out.2])
                      clear q1 q2
                      by_cases hlt : i2 < s.size
                      · obtain ⟨b, hb2⟩ : ∃ b, l[i2]? = some b := ⟨_, List.getElem?_eq_getElem (by omega)⟩
                        have hix := HI.out i2 _ hb2
                        have hne : ¬ ((b.toNat : Int) = 82) := by
                          intro e
                          apply hb
                          rw [hb2]
                          congr 1
                          apply UInt8.toNat_inj.1
                          show b.toNat = 82
                          omega
                        obtain ⟨x, hx⟩ : ∃ x : Int, (b.toNat : Int) = x := ⟨_, rfl⟩
                        rw [hx] at hix hne
                        clear hb2 hb hx
                        go_wp2_with fail
                        go_roundw
                        case rel => exact ⟨i2, 3 + 1, by go_num, rfl, by omega, by omega, HD3.out, HS3.out⟩
                        case measure => simp [intOf]
                      · clear hb
                        go_wp2_with fail
                        go_roundw
                        case rel => exact ⟨i2, 3 + 1, by go_num, rfl, by omega, by omega, HD3.out, HS3.out⟩
                        case measure => simp [intOf]
                · have hq := cell_of_row _ (w.heap.size + 2) 4 _ _ _ HSt.out.l
                  simp only [lettersV, List.getElem?_toArray, List.getElem?_cons_zero, List.getElem?_cons_succ] at hq
                  go_wp2_with fail
                  go_loopw [5] (fun i wz => IRel w l r v 4 i wz) (fun i _ => s.size - (intOf i).toNat)
                  case atStart => exact ⟨i', 0, rfl, hi, Nat.zero_le _, by rw [HDR.out]; exact Nat.zero_add _, by rw [HDR.out]; rfl, HSt.out.congr (cF_start (by omega))⟩
                  case round =>
                    obtain ⟨i2, m, rfl, hi2, hm, he1, he2, hst⟩ := hrel
                    have HE1 := Lib.hid he1
                    have HE2 := Lib.hid he2
                    have q1 := hst.c.cell (i := 4) (by omega)
                    have q2 := hst.c.frozen 4
                    rw [updI_at] at q1
                    have HS2 := Lib.hid hst
                    clear hst he1 he2
                    by_cases hb : l[i2]? = some (letN 4)
                    · have hlt : i2 < s.size := by rw [← hlen]; exact (List.getElem?_eq_some_iff.1 hb).1
                      have hix : ∀ W, (Instr.index 9 (.string s) (.int .i64 ((i2 : Nat) : Int))).run Tryd.prog W = .ok (.int .u8 71) W := HI.out i2 _ hb
                      have HE := Lib.hid (eat_step hb)
                      have HS3 := Lib.hid (HS2.out.set_ 4 ((m : Int) + 1))
                      clear hb
                      go_wp2_with fail
                      go_roundw
                      case rel => exact ⟨i2 + 1, m + 1, by go_num, by omega, by omega, by have h1 := HE1.out; have h2 := HE.out.1; omega, by rw [← HE.out.2]; exact HE2.out, by have h := HS3.out; rw [updI_upd] at h; exact h⟩
                      case measure => simp [intOf]; omega
                    · have HE := Lib.hid (eat_stop hb)
                      have HS3 := Lib.hid (HS2.out.next (by omega) (by have h1 := HE1.out; rw [HE.out.1, Nat.add_zero] at h1; exact h1))
                      have HD3 := Lib.hid (show l.drop i2 = restN r (4 + 1) from by rw [← HE2.out, HE.out.2])
                      clear q1 q2
                      by_cases hlt : i2 < s.size
                      · obtain ⟨b, hb2⟩ : ∃ b, l[i2]? = some b := ⟨_, List.getElem?_eq_getElem (by omega)⟩
                        have hix := HI.out i2 _ hb2
                        have hne : ¬ ((b.toNat : Int) = 71) := by
                          intro e
                          apply hb
                          rw [hb2]
                          congr 1
                          apply UInt8.toNat_inj.1
                          show b.toNat = 71
                          omega
                        obtain ⟨x, hx⟩ : ∃ x : Int, (b.toNat : Int) = x := ⟨_, rfl⟩
                        rw [hx] at hix hne
                        clear hb2 hb hx
                        go_wp2_with fail
                        go_roundw
                        case rel => exact ⟨i2, 4 + 1, by go_num, rfl, by omega, by omega, HD3.out, HS3.out⟩
                        case measure => simp [intOf]
                      · clear hb
                        go_wp2_with fail
                        go_roundw
                        case rel => exact ⟨i2, 4 + 1, by go_num, rfl, by omega, by omega, HD3.out, HS3.out⟩
                        case measure => simp [intOf]
              · obtain rfl : k = 5 := by omega
                have HIs := Lib.hid (show (l.drop i' = []) ↔ ¬ i' < s.size by rw [List.drop_eq_nil_iff, hlen]; omega)
                rw [HDR.out, HRd.out] at HIs
                have HV2 := Lib.hid HV.out
                have hsz0 : (Tryd.prog.info? 23).map (·.size) = some (arr .i64 6 zeroC).size := by rw [arr_size]; exact size6
                have h1c := arr_one .i64 6 zeroC
                have hsz1 : (Tryd.prog.info? 23).map (·.size) = some (arr .i64 6 (cF r v 5)).size := by rw [arr_size]; exact size6
                have h1d := arr_one .i64 6 (cF r v 5)
                have p0 := HSt.out.c.cell (i := 0) (by omega)
                have p1 := HSt.out.c.cell (i := 1) (by omega)
                have p2 := HSt.out.c.cell (i := 2) (by omega)
                have p3 := HSt.out.c.cell (i := 3) (by omega)
                have p4 := HSt.out.c.cell (i := 4) (by omega)
                have HY := Lib.hid (show ∀ j, j < 5 → cF r v 5 j = (cntN r j : Nat) from fun j hj => by unfold cF; rw [if_pos hj])
                obtain ⟨y0, hy0⟩ : ∃ y, y = cF r v 5 0 := ⟨_, rfl⟩
                obtain ⟨y1, hy1⟩ : ∃ y, y = cF r v 5 1 := ⟨_, rfl⟩
                obtain ⟨y2, hy2⟩ : ∃ y, y = cF r v 5 2 := ⟨_, rfl⟩
                obtain ⟨y3, hy3⟩ : ∃ y, y = cF r v 5 3 := ⟨_, rfl⟩
                obtain ⟨y4, hy4⟩ : ∃ y, y = cF r v 5 4 := ⟨_, rfl⟩
                rw [← hy0] at p0
                rw [← hy1] at p1
                rw [← hy2] at p2
                rw [← hy3] at p3
                rw [← hy4] at p4
                have z0 := HY.out 0 (by omega)
                have z1 := HY.out 1 (by omega)
                have z2 := HY.out 2 (by omega)
                have z3 := HY.out 3 (by omega)
                have z4 := HY.out 4 (by omega)
                rw [← hy0] at z0
                rw [← hy1] at z1
                rw [← hy2] at z2
                rw [← hy3] at z3
                rw [← hy4] at z4
                have HYs := Lib.hid (show (∀ j, j < 5 → cntN r j ≤ 20) ↔ (y0 ≤ 20 ∧ y1 ≤ 20 ∧ y2 ≤ 20 ∧ y3 ≤ 20 ∧ y4 ≤ 20) by
                  constructor
                  · intro h
                    have := h 0 (by omega); have := h 1 (by omega); have := h 2 (by omega); have := h 3 (by omega); have := h 4 (by omega)
                    omega
                  · rintro ⟨h0, h1, h2, h3, h4⟩ j hj
                    match j, hj with
                    | 0, _ => omega
                    | 1, _ => omega
                    | 2, _ => omega
                    | 3, _ => omega
                    | 4, _ => omega)
                rw [HRd.out] at HYs
                clear hy0 hy1 hy2 hy3 hy4 z0 z1 z2 z3 z4
                by_cases hall : ¬ i' < s.size ∧ (y0 ≤ 20 ∧ y1 ≤ 20 ∧ y2 ≤ 20 ∧ y3 ≤ 20 ∧ y4 ≤ 20)
                · have HT := Lib.hid (show IsText (cF r v 5) l by
                    have h := found_text HD.out (by omega) HNB.out (HIs.out.2 hall.1) (HYs.out.2 hall.2)
                    rw [← HV.out, ← HRd.out] at h
                    exact isText_congr (fun i hi => (cF_end i hi).symm) h)
                  obtain ⟨ai, a0, a1, a2, a3, a4⟩ := hall
                  go_wp2_with (first
                    | (refine wpList_load_row rfl 23 (.tmp 4) rfl (w.heap.size + 1) rfl 23 _ (0, 0) _ HSt.out.c Tryd.underlying23 rfl hsz1 ?_)
                    | (refine wpList_store_row rfl 23 (.tmp 2) (.tmp 149) rfl w.heap.size _ rfl rfl 23 (arr .i64 6 zeroC) HSt.out.r hsz1 (by rw [arr_size, arr_size]) h1d ?_))
                  refine bodyPost_ret (v := .tuple #[.agg (arr .i64 6 (cF r v 5)), .int .i64 0]) ?_ rfl ⟨cF r v 5, 0, .inl ⟨HT.out, rfl⟩, rfl, below_setRow HSt.out.b _ _ (by omega)⟩
                  exact results_cell_tmp (ty := 23) (p := 2) (q := 3) (by kernel_rfl) _ _ w.heap.size 23 _ (0, 0) _ rfl (HSt.out.r.setRow _) Tryd.underlying23 rfl hsz1
                · have HNT := Lib.hid (show ¬ ∃ f, IsText f l from fun ⟨f, hf⟩ => by
                    obtain ⟨t1, t2⟩ := text_found hf HD.out (by omega) HNo.out
                    exact hall ⟨HIs.out.1 t1, HYs.out.1 t2⟩)
                  have hb : (decide (i' < s.size) || decide (20 < y0) || decide (20 < y1) || decide (20 < y2) || decide (20 < y3) || decide (20 < y4)) = true := by
                    simp only [Bool.or_eq_true, decide_eq_true_eq]; omega
                  go_wp2_with (refine wpList_store_row rfl 23 (.tmp 2) (.tmp 148) rfl w.heap.size _ rfl rfl 23 (arr .i64 6 zeroC) HSt.out.r hsz0 rfl h1c ?_)
                  all_goals refine bodyPost_ret (v := .tuple #[.agg (arr .i64 6 zeroC), .int .i64 2]) ?_ rfl ⟨zeroC, 2, .inr ⟨HNT.out, fun _ _ => rfl, rfl⟩, rfl, below_setRow HSt.out.b _ _ (by omega)⟩
                  all_goals exact results_cell_tmp (ty := 23) (p := 2) (q := 3) (by kernel_rfl) _ _ w.heap.size 23 _ (0, 0) _ rfl (HSt.out.r.setRow _) Tryd.underlying23 rfl hsz0
          · have hbb : Bad l d (capV (l.take d)) := by rw [← HV.out]; exact HBad.out.1 hbc
            have HNT := Lib.hid (show ¬ ∃ f, IsText f l from fun ⟨f, hf⟩ => text_not_bad hf HD.out hd HNo.out hbb)
            have hsz0 : (Tryd.prog.info? 23).map (·.size) = some (arr .i64 6 zeroC).size := by rw [arr_size]; exact size6
            have h1c := arr_one .i64 6 zeroC
            clear hbb
            subst hbc
            go_wp2_with (refine wpList_store_row rfl 23 (.tmp 2) (.tmp 67) rfl w.heap.size _ rfl rfl 23 (arr .i64 6 zeroC) HR.out hsz0 rfl h1c ?_)
            refine bodyPost_ret (v := .tuple #[.agg (arr .i64 6 zeroC), .int .i64 2]) ?_ rfl ⟨zeroC, 2, .inr ⟨HNT.out, fun _ _ => rfl, rfl⟩, rfl, below_setRow hb2 _ _ (by omega)⟩
            exact results_cell_tmp (ty := 23) (p := 2) (q := 3) (by kernel_rfl) _ _ w.heap.size 23 _ (0, 0) _ rfl (HR.out.setRow _) Tryd.underlying23 rfl hsz0
      · obtain ⟨b, hb, hb0, hb1⟩ := HB.out.1 hBc
        have hlt : d < s.size := by rw [← hlen]; exact (List.getElem?_eq_some_iff.1 hb).1
        have hix := fun W => HI.out d b hb W
        have HN := Lib.hid (allDig_next HD.out hb ⟨hb0, hb1⟩)
        have HCV := Lib.hid (capV_next hb)
        rw [← HV.out] at HCV
        obtain ⟨x, hx⟩ : ∃ x : Int, (b.toNat : Int) = x := ⟨_, rfl⟩
        have x0 : 48 ≤ x := by omega
        have x1 : x ≤ 57 := by omega
        rw [hx] at hix HCV
        clear hx hb hb0 hb1
        obtain ⟨r, hr⟩ : ∃ r, (if 2000 < v * 10 + (x - 48) then 2000 else v * 10 + (x - 48)) = r := ⟨_, rfl⟩
        rw [hr] at HCV
        go_wp2_with fail
        go_roundw
        case rel => exact ⟨d + 1, by go_num, by rw [HCV.out], by omega, HN.out, rfl⟩
        case measure => simp [intOf]; omega
end Go.Proofs.YtammchaihangnaaDoor
