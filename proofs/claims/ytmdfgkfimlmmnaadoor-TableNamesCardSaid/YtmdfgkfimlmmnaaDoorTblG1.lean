/- Layer 7: contracts of card's spellsFit and Check. Layer 8: which numbers have a card, and which card. Layer 8: the reference's figures. Layer 8: the reference's Name. Layer 8: the reference's Deck. Layer 8: what table's calls answer, as one statement: the laws' walks take it, the code's walks prove it. Layer 8: the laws' walks: alive, TableDecks. Layer 8: the laws' walks: TableCards. Layer 8: the laws' walks: TableNames. -/
import Derived.Test.YtmdfgkfimlmmnaaDoorCardC2
import Derived.Test.YtmdfgkfimlmmnaaDoorTblRef3
import Derived.Test.YtmdfgkfimlmmnaaDoorNum
import Derived.Test.YtmdfgkfimlmmnaaDoorTblData
import Derived.Test.YtmdfgkfimlmmnaaDoorCardCards
import Derived.Test.YtmdfgkfimlmmnaaDoorTreeTop
namespace Go.Proofs.YtmdfgkfimlmmnaaDoor
open Go.RowKit Ex Mx
def SpellsC (c : CardT) : Prop := if c.kind = 2 then (usesL c.abs 0).length = 1 ∧ c.abs.length = 1 else (usesL c.abs 0).length = 0 ∧ c.abs.length ≤ 4
instance (c : CardT) : Decidable (SpellsC c) := by unfold SpellsC; infer_instance
set_option linter.unusedSimpArgs false in
set_option maxRecDepth 100000 in
set_option maxHeartbeats 1000000 in
theorem spellsFit_any (d : Nat) (c : CardT) (cs : Array Value) (w : World) (hr : ReadsC w.heap.size w d cs c) (hs : c.abs.length ≤ 1000) : Calls Tryd.prog 34 #[.agg cs] w fun e w' => e = .returned (.bool (decide (SpellsC c))) ∧ Below w.heap.size w w' := by
  have hsx : (Tryd.prog.info? 27).map (·.size) = some cs.size := by rw [hr.size]; exact size13
  have HR := Lib.hid hr
  obtain ⟨_, _, _, _, _, _, A, cc, hcs, hl, hc, hx⟩ := hr
  have HCs := Lib.hid hcs
  clear hx hcs
  obtain ⟨q, hq⟩ : ∃ q, q = decide (SpellsC c) := ⟨_, rfl⟩
  rw [← hq]
  go_enter Tryd.func34, Tryd.ntmps34
  go_upto_region 1 with fail
  obtain ⟨w1, hw1⟩ : ∃ w1, w1 = w.alloc (.cells cs 27) := ⟨_, rfl⟩
  have HE := Lib.hid (show CdAt w1 w.heap.size cs by rw [hw1]; exact CdAt.new _ _)
  have hb1 : Below w.heap.size w w1 := by rw [hw1]; exact (Below.refl _ _).alloc (Nat.le_refl _) _
  rw [← hw1]
  clear hw1
  have hE := HE.out
  go_wp2_with (refine wantCd (by rfl) (.tmp 1) rfl w.heap.size rfl cs hE hsx ?_)
  refine (uses_any d c cs 0 w1 (HR.out.grow hb1) hs).mono ?_
  rintro e w2 ⟨A2, m2, c2, rfl, hown, hb2⟩
  have hm := hown.len
  have hbw2 := keepB hb2 hb1
  have hE2 := HE.out.keep hb2
  have c0 : w2.cell? ⟨w.heap.size, 0, none⟩ = some (.int .i64 c.kind) := by rw [hE2.cell, HCs.out]; exact cd_kind
  have c12 : w2.cell? ⟨w.heap.size, 12, none⟩ = some (.slice A c.abs.length cc) := by rw [hE2.cell, HCs.out]; exact cd_abs
  have hdef : q = decide (if c.kind = 2 then m2 = 1 ∧ c.abs.length = 1 else m2 = 0 ∧ c.abs.length ≤ 4) := by rw [hq]; exact decide_eq_decide.2 (by unfold SpellsC; rw [hm])
  obtain ⟨k, hk⟩ : ∃ x, x = c.kind := ⟨_, rfl⟩
  obtain ⟨n, hn⟩ : ∃ x, x = c.abs.length := ⟨_, rfl⟩
  rw [← hk] at c0 hdef
  rw [← hn] at c12 hdef
  clear hk hn hm hown hE hE2 hq hl
  by_cases h2 : k = 2
  · have e2 : (k == 2) = true := by simpa using h2
    replace hdef : q = decide (m2 = 1 ∧ n = 1) := by rw [hdef]; exact decide_eq_decide.2 (by rw [if_pos h2])
    by_cases h1 : n = 1
    · have e1 : ((n : Int) == 1) = true := by simp; omega
      have HQ := Lib.hid (show q = ((m2 : Int) == 1) by rw [hdef, Bool.eq_iff_iff, decide_eq_true_iff, beq_iff_eq]; omega)
      clear h2 h1 hdef
      go_wp2_with fail
      all_goals go_ret
      all_goals exact ⟨by rw [HQ.out]; rfl, hbw2⟩
    · have e1 : ((n : Int) == 1) = false := by simp; omega
      have HQ := Lib.hid (show q = false by rw [hdef]; exact decide_eq_false (by omega))
      clear h2 h1 hdef
      go_wp2_with fail
      all_goals go_ret
      all_goals exact ⟨by rw [HQ.out]; rfl, hbw2⟩
  · have e2 : (k == 2) = false := by simpa using h2
    replace hdef : q = decide (m2 = 0 ∧ n ≤ 4) := by rw [hdef]; exact decide_eq_decide.2 (by rw [if_neg h2])
    by_cases h1 : n ≤ 4
    · have e1 : decide ((n : Int) ≤ 4) = true := by simp; omega
      have HQ := Lib.hid (show q = ((m2 : Int) == 0) by rw [hdef, Bool.eq_iff_iff, decide_eq_true_iff, beq_iff_eq]; omega)
      clear h2 h1 hdef
      go_wp2_with fail
      all_goals go_ret
      all_goals exact ⟨by rw [HQ.out]; rfl, hbw2⟩
    · have e1 : decide ((n : Int) ≤ 4) = false := by simp; omega
      have HQ := Lib.hid (show q = false by rw [hdef]; exact decide_eq_false (by omega))
      clear h2 h1 hdef
      go_wp2_with fail
      all_goals go_ret
      all_goals exact ⟨by rw [HQ.out]; rfl, hbw2⟩
def CkcRel (w1 : World) (c : CardT) (i : Value) (wr : World) : Prop := ∃ k : Nat, i = .int .i64 ((k : Nat) : Int) ∧ k ≤ c.abs.length ∧ chkAs (c.abs.take k) = 0 ∧ Below w1.heap.size w1 wr
set_option linter.unusedSimpArgs false in
set_option maxRecDepth 100000 in
set_option maxHeartbeats 1000000 in
theorem checkC_any (d : Nat) (c : CardT) (cs : Array Value) (w : World) (hr : ReadsC w.heap.size w d cs c) (hs : SmallC c) : Calls Tryd.prog 14 #[.agg cs] w fun e w' => e = .returned (errV (chkC c)) ∧ Below w.heap.size w w' := by
  have hsx : (Tryd.prog.info? 27).map (·.size) = some cs.size := by rw [hr.size]; exact size13
  have HR := Lib.hid hr
  have HSm := Lib.hid hs
  have hl9 := hs.1
  obtain ⟨_, _, hwd, _, _, _, A, cc, hcs, hl, hc, hx⟩ := hr
  have HX := Lib.hid hx
  have HCs := Lib.hid hcs
  clear hx hcs hs
  go_enter Tryd.func14, Tryd.ntmps14
  go_upto_region 1 with fail
  obtain ⟨w1, hw1⟩ : ∃ w1, w1 = w.alloc (.cells cs 27) := ⟨_, rfl⟩
  have HE := Lib.hid (show CdAt w1 w.heap.size cs by rw [hw1]; exact CdAt.new _ _)
  have hb1 : Below w.heap.size w w1 := by rw [hw1]; exact (Below.refl _ _).alloc (Nat.le_refl _) _
  rw [← hw1]
  clear hw1
  have c0 : w1.cell? ⟨w.heap.size, 0, none⟩ = some (.int .i64 c.kind) := by rw [HE.out.cell, HCs.out]; exact cd_kind
  have c1 : w1.cell? ⟨w.heap.size, 1, none⟩ = some (.int .i64 c.colour) := by rw [HE.out.cell, HCs.out]; exact cd_colour
  obtain ⟨kd, hkd⟩ : ∃ x, x = c.kind := ⟨_, rfl⟩
  obtain ⟨cl, hcl⟩ : ∃ x, x = c.colour := ⟨_, rfl⟩
  have hK : KindC c ↔ ((0 ≤ kd ∧ kd ≤ 3) ∧ (0 ≤ cl ∧ cl ≤ 5)) := by unfold KindC; rw [hkd, hcl]
  rw [← hkd] at c0
  rw [← hcl] at c1
  by_cases h0 : (0 ≤ kd ∧ kd ≤ 3) ∧ (0 ≤ cl ∧ cl ≤ 5)
  case neg =>
    have HQ := Lib.hid (show chkC c = 6 by unfold chkC; rw [if_pos (fun h => h0 (hK.1 h))])
    clear hK hkd hcl
    by_cases g0 : 0 ≤ kd
    · have b0 : decide (kd < 0) = false := by simp; omega
      by_cases g1 : kd ≤ 3
      · have b1 : decide (4 ≤ kd) = false := by simp; omega
        by_cases g2 : 0 ≤ cl
        · have b2 : decide (cl < 0) = false := by simp; omega
          have b3 : decide (6 ≤ cl) = true := by simp; omega
          clear h0 g0 g1 g2
          go_wp2_with fail
          all_goals go_ret
          all_goals exact ⟨by rw [HQ.out]; rfl, hb1⟩
        · have b2 : decide (cl < 0) = true := by simp; omega
          clear h0 g0 g1 g2
          go_wp2_with fail
          all_goals go_ret
          all_goals exact ⟨by rw [HQ.out]; rfl, hb1⟩
      · have b1 : decide (4 ≤ kd) = true := by simp; omega
        clear h0 g0 g1
        go_wp2_with fail
        all_goals go_ret
        all_goals exact ⟨by rw [HQ.out]; rfl, hb1⟩
    · have b0 : decide (kd < 0) = true := by simp; omega
      clear h0 g0
      go_wp2_with fail
      all_goals go_ret
      all_goals exact ⟨by rw [HQ.out]; rfl, hb1⟩
  have HH0 := Lib.hid (hK.2 h0)
  have b0 : decide (kd < 0) = false := by simp; omega
  have b1 : decide (4 ≤ kd) = false := by simp; omega
  have b2 : decide (cl < 0) = false := by simp; omega
  have b3 : decide (6 ≤ cl) = false := by simp; omega
  have hct := (show CdAt w1 w.heap.size (cardC c A c.abs.length cc) by rw [← HCs.out]; exact HE.out).cost
  have hcall := costFits_any c.cost (kd != 0) w1 hwd
  rw [show (!(kd != 0)) = (c.kind == 0) by rw [hkd]; cases h : (c.kind == 0) <;> simp [bne, h]] at hcall
  clear h0 hK hkd hcl
  by_cases h1 : CostC c.cost (c.kind == 0)
  case neg =>
    have HQ := Lib.hid (show chkC c = 10 by unfold chkC; rw [if_neg (not_not_intro HH0.out), if_pos h1])
    rw [decide_eq_false h1] at hcall
    go_upto_region 3 with fail
    go_wp2_with (refine wantCost (by rfl) (.tmp 25) rfl w.heap.size 3 rfl c.cost hct ?_)
    refine hcall.mono ?_
    rintro e w2 ⟨rfl, hb2⟩
    clear h1 hct c0 c1 b0 b1 b2 b3
    go_wp2_with fail
    all_goals go_ret
    all_goals exact ⟨by rw [HQ.out]; rfl, keepB hb2 hb1⟩
  rw [decide_eq_true h1] at hcall
  have HH1 := Lib.hid h1
  clear h1
  go_upto_region 3 with fail
  go_wp2_with (refine wantCost (by rfl) (.tmp 25) rfl w.heap.size 3 rfl c.cost hct ?_)
  refine hcall.mono ?_
  rintro e w2 ⟨rfl, hb2⟩
  have hE2 := HE.out.keep hb2
  have hbw2 := keepB hb2 hb1
  clear hcall hct c0 c1 b0 b1 b2 b3
  go_wp2_with (refine wantCd (by rfl) (.tmp 1) rfl w.heap.size rfl cs hE2 hsx ?_)
  refine (numbersFit_any d c cs w2 (HR.out.grow hbw2)).mono ?_
  rintro e w3 ⟨rfl, hb3⟩
  have hE3 := hE2.keep hb3
  have hbw3 := keepB hb3 hbw2
  clear hE2 hb2 hb3 hbw2
  by_cases h2 : BodyC c
  case neg =>
    have HQ := Lib.hid (show chkC c = 1 by unfold chkC; rw [if_neg (not_not_intro HH0.out), if_neg (not_not_intro HH1.out), if_pos h2])
    rw [decide_eq_false h2]
    clear h2
    go_wp2_with fail
    all_goals go_ret
    all_goals exact ⟨by rw [HQ.out]; rfl, hbw3⟩
  rw [decide_eq_true h2]
  have HH2 := Lib.hid h2
  clear h2
  go_wp2_with (refine wantCd (by rfl) (.tmp 1) rfl w.heap.size rfl cs hE3 hsx ?_)
  refine (speedFits_any d c cs w3 (HR.out.grow hbw3)).mono ?_
  rintro e w4 ⟨rfl, hb4⟩
  have hE4 := hE3.keep hb4
  have hbw4 := keepB hb4 hbw3
  clear hE3 hb4 hbw3
  by_cases h3 : c.fast = true → c.kind = 2 ∨ c.kind = 1
  case neg =>
    have HQ := Lib.hid (show chkC c = 2 by unfold chkC; rw [if_neg (not_not_intro HH0.out), if_neg (not_not_intro HH1.out), if_neg (not_not_intro HH2.out), if_pos (fun h => h3 h.1)])
    rw [decide_eq_false h3]
    clear h3
    go_wp2_with fail
    all_goals go_ret
    all_goals exact ⟨by rw [HQ.out]; rfl, hbw4⟩
  rw [decide_eq_true h3]
  have HH3 := Lib.hid h3
  clear h3
  go_wp2_with (refine wantCd (by rfl) (.tmp 1) rfl w.heap.size rfl cs hE4 hsx ?_)
  refine (spellsFit_any d c cs w4 (HR.out.grow hbw4) (by omega)).mono ?_
  rintro e w5 ⟨rfl, hb5⟩
  have hE5 := hE4.keep hb5
  have hbw5 := keepB hb5 hbw4
  clear hE4 hb5 hbw4
  by_cases h4 : SpellsC c
  case neg =>
    have HQ := Lib.hid (show chkC c = 2 by unfold chkC; rw [if_neg (not_not_intro HH0.out), if_neg (not_not_intro HH1.out), if_neg (not_not_intro HH2.out), if_pos (fun h => h4 h.2)])
    rw [decide_eq_false h4]
    clear h4
    go_wp2_with fail
    all_goals go_ret
    all_goals exact ⟨by rw [HQ.out]; rfl, hbw5⟩
  rw [decide_eq_true h4]
  have HT := Lib.hid (show chkC c = chkAs c.abs by unfold chkC; rw [if_neg (not_not_intro HH0.out), if_neg (not_not_intro HH1.out), if_neg (not_not_intro HH2.out), if_neg (not_not_intro ⟨HH3.out, h4⟩)])
  clear h4
  have c12 : w5.cell? ⟨w.heap.size, 12, none⟩ = some (.slice A c.abs.length cc) := by rw [hE5.cell, HCs.out]; exact cd_abs
  clear hE5
  go_upto_region 10 with fail
  clear c12
  go_loopw [49] (fun i wr => CkcRel w5 c i wr) (fun i _ => c.abs.length - (intOf i).toNat)
  case atStart => exact ⟨0, rfl, by omega, rfl, Below.refl _ _⟩
  case round =>
    obtain ⟨k, rfl, hk, hck, hb⟩ := hrel
    have HCk := Lib.hid hck
    clear hck
    by_cases hlt : k < c.abs.length
    · obtain ⟨a, ha⟩ : ∃ a, c.abs[k]? = some a := ⟨_, List.getElem?_eq_getElem hlt⟩
      obtain ⟨b, o, ys, rfl, hbb, hrg, hra⟩ := (HX.out.grow hbw5).grow hb k a ha
      have hsz := HSm.out.2 k a ha
      have HTk := Lib.hid (chkAs_take c.abs k a HCk.out ha)
      have HSt := Lib.hid (chkAs_stop c.abs k a HCk.out ha)
      have hd : decide ((k : Int) < (c.abs.length : Int)) = true := by simp; omega
      go_upto_region 11 with fail
      have hys := hra.size
      have hy1 := hra.one
      have hsy : (Tryd.prog.info? 48).map (·.size) = some ys.size := by rw [hys]; exact size14
      have hraw := hrg
      have hnew : (wr.alloc (.cells zeroA 48)).heap[wr.heap.size]? = some (.cells zeroA 48 (0, 0)) := heap_alloc_new _ _
      go_upto_region 12 with (first
        | (refine load_ab rfl (.tmp 51) rfl b (o + k * 14) rfl ys hys hraw ?_)
        | (refine wpList_store_row rfl 48 (.tmp 4) (.tmp 52) rfl wr.heap.size _ rfl rfl 48 zeroA hnew hsy (by rw [hys]; rfl) hy1 ?_))
      obtain ⟨wn, hwn, hAn, hbn⟩ := ab_box wr (xs := ys)
      have hran := hra.grow hbn
      have hbwn := keepB hbn hb
      rw [← hwn]
      clear hwn hnew hraw hy1
      go_wp2_with (refine wpList_load_row rfl 48 (.tmp 4) rfl wr.heap.size rfl 48 _ (0, 0) _ hAn Tryd.underlying48 rfl hsy ?_)
      refine (checkA_any d a ys wn hran hsz).mono ?_
      rintro e w6 ⟨rfl, hb6⟩
      have hbw6 := keepB hb6 hbwn
      obtain ⟨v, hv⟩ : ∃ v, v = chkA a := ⟨_, rfl⟩
      rw [← hv] at HTk HSt ⊢
      clear hv hb6 hran hra hrg hAn hbn
      by_cases hv0 : v = 0
      · have HN := Lib.hid (HTk.out.trans hv0)
        rw [hv0, errV_nil]
        clear hv0
        go_wp2_with fail
        go_roundw
        case rel => exact ⟨k + 1, by go_num, by omega, HN.out, hbw6⟩
        case measure => simp [intOf]; omega
      · have HN := Lib.hid (HT.out.trans (HSt.out hv0))
        have HEv := Lib.hid (errV_err hv0)
        rw [errV_err hv0]
        clear hv0
        go_wp2_with fail
        go_ret
        exact ⟨by rw [HN.out, HEv.out]; rfl, keepB hbw6 hbw5⟩
    · obtain rfl : k = c.abs.length := by omega
      have hd : decide ((c.abs.length : Int) < (c.abs.length : Int)) = false := by simp
      have HN := Lib.hid (show chkC c = 0 by rw [HT.out]; have h := HCk.out; rw [List.take_length] at h; exact h)
      go_wp2_with fail
      go_ret
      exact ⟨by rw [HN.out]; rfl, keepB hb hbw5⟩
end Go.Proofs.YtmdfgkfimlmmnaaDoor
namespace Go.Proofs.YtmdfgkfimlmmnaaDoor
open Go.RowKit Ex Mx
namespace Ex
abbrev zeroT : CardT := ⟨0, 0, false, noC, 0, 0, 0, []⟩
def isN (x : Int) : Bool := decide (0 ≤ x ∧ x ≤ 119)
/-- The card of any number. -/
def tblX (x : Int) : CardT := if 0 ≤ x ∧ x ≤ 119 then tblC x.toNat else zeroT
end Ex
end Go.Proofs.YtmdfgkfimlmmnaaDoor
namespace Go.Proofs.YtmdfgkfimlmmnaaDoor
open Go.RowKit Ex Mx Wx
namespace Ex
/-- The figures of a number below 1000. -/
def figN (n : Nat) : List Int :=
  if n < 10 then [((48 + n : Nat) : Int)]
  else if n < 100 then [((48 + n / 10 : Nat) : Int), ((48 + n % 10 : Nat) : Int)]
  else [((48 + n / 100 : Nat) : Int), ((48 + n / 10 % 10 : Nat) : Int), ((48 + n % 10 : Nat) : Int)]
theorem figN_step {n : Nat} (h0 : 10 ≤ n) (h1 : n < 1000) : figN n = figN (n / 10) ++ [((48 + n % 10 : Nat) : Int)] := by
  unfold figN
  rw [if_neg (by omega)]
  by_cases h : n < 100
  · rw [if_pos h, if_pos (by omega)]; rfl
  · rw [if_neg h, if_neg (by omega), if_pos (by omega), show n / 10 / 10 = n / 100 by omega]; rfl
theorem figN_len {n : Nat} : (figN n).length ≤ 3 := by
  unfold figN
  split
  · simp
  · split <;> simp
end Ex
theorem str_at {w : World} {B n c : Nat} {A : Option Addr} {l : List Int} (h : Nums .u8 w B A n l) : (convert 87 9 (.slice A n c)).run Tryd.prog w = .ok (.string (strOfNums l)) w :=
  run_string_of h Tryd.underlying87 Tryd.underlying5 Tryd.underlying9
set_option linter.unusedSimpArgs false in
set_option maxRecDepth 100000 in
set_option maxHeartbeats 1000000 in
theorem figRef_any (n : Nat) : ∀ (w : World), n < 1000 → Calls Tryd.prog 30 #[.int .i64 (n : Int)] w fun e w' => e = .returned (.string (strOfNums (figN n))) ∧ Below w.heap.size w w' := by
  induction n using Nat.strongRecOn with
  | ind n ih =>
    intro w h
    by_cases h10 : n < 10
    · have d0 : decide ((n : Int) < 10) = true := by simp; omega
      have HF := Lib.hid (show figN n = [((48 + n : Nat) : Int)] from if_pos h10)
      obtain ⟨d, hd⟩ : ∃ d, d = 48 + n := ⟨_, rfl⟩
      rw [← hd] at HF
      have vd : (48 : Int) + (n : Int) = (d : Int) := by omega
      have hst : (convert 87 9 (.slice (some ⟨w.heap.size, 0, none⟩) 1 1)).run Tryd.prog (w.alloc (.cells #[.int .u8 (d : Int)] 5)) = .ok (.string (strOfNums [(d : Int)])) (w.alloc (.cells #[.int .u8 (d : Int)] 5)) := str_at (c := 1) (Nums.one w .u8 (d : Int) 5)
      have vw : IntKind.i64.wrap ((48 : Int) + (n : Int)) = (d : Int) := by rw [i64_in (by omega) (by omega)]; omega
      have vu : IntKind.u8.wrap (d : Int) = (d : Int) := by simp only [IntKind.wrap, IntKind.bits, IntKind.signed]; simp; omega
      have hd9 : d < 58 := by omega
      clear hd h10
      go_enter Tryd.func30, Tryd.ntmps30
      go_wp2_with fail
      go_ret
      exact ⟨by rw [HF.out]; rfl, (Below.refl _ _).alloc (Nat.le_refl _) _⟩
    · have d0 : decide ((n : Int) < 10) = false := by simp; omega
      obtain ⟨q, hq⟩ : ∃ q, q = n / 10 := ⟨_, rfl⟩
      obtain ⟨d, hd⟩ : ∃ d, d = 48 + n % 10 := ⟨_, rfl⟩
      have HF0 := figN_step (n := n) (by omega) h
      rw [← hq, ← hd] at HF0
      have HQ := Lib.hid (show q < n ∧ q < 100 ∧ 1 ≤ q from by omega)
      have vq : (n : Int) / 10 = (q : Int) := by omega
      have hq100 : q < 100 := by omega
      have vq2 : IntKind.i64.wrap (q : Int) = (q : Int) := i64_in (by omega) (by omega)
      obtain ⟨r, hr⟩ : ∃ r, r = n % 10 := ⟨_, rfl⟩
      have vr : (n : Int) % 10 = (r : Int) := by omega
      have vr2 : (n : Int).tmod 10 = (r : Int) := by rw [Int.tmod_eq_emod_of_nonneg (by omega)]; omega
      have vd : IntKind.i64.wrap ((48 : Int) + (r : Int)) = (d : Int) := by rw [i64_in (by omega) (by omega)]; omega
      have vd2 : (48 : Int) + (r : Int) = (d : Int) := by omega
      have vu : IntKind.u8.wrap (d : Int) = (d : Int) := by simp only [IntKind.wrap, IntKind.bits, IntKind.signed]; simp; omega
      have hd9 : d < 58 := by omega
      have hr9 : r < 10 := by omega
      have vd3 : IntKind.i64.wrap (d : Int) = (d : Int) := i64_in (by omega) (by omega)
      obtain ⟨s1, hs1⟩ : ∃ s, s = strOfNums (figN q) := ⟨_, rfl⟩
      obtain ⟨s2, hs2⟩ : ∃ s, s = strOfNums [(d : Int)] := ⟨_, rfl⟩
      have HF := Lib.hid (show strOfNums (figN n) = s1 ++ s2 by rw [HF0, hs1, hs2, str_append])
      have HS1 := Lib.hid hs1
      have HS2 := Lib.hid hs2
      clear hq hd hr HF0 h10 hs1 hs2
      go_enter Tryd.func30, Tryd.ntmps30
      go_upto_region 3 with fail
      refine region_below (by kernel_rfl) (fun hHeld => ?_)
      refine wpAnyH_take (i := 0) (v := ?_) rfl (by kernel_rfl) (by kernel_rfl) (by kernel_rfl) (fun _ _ _ h => h) (Or.inl ⟨by rfl, ?_⟩) hHeld ?_
      rotate_left
      · (intro w hSw; go_simp; (try with_reducible rfl))
      simp only [Act.put, List.getElem_toArray, List.getElem_cons_zero, List.getElem_cons_succ, List.setIfInBounds_toArray, List.set_cons_zero, List.set_cons_succ]
      refine wpAnyH_take (i := 1) (v := ?_) rfl (by kernel_rfl) (by kernel_rfl) (by kernel_rfl) (fun _ _ _ h => h) (Or.inl ⟨by rfl, ?_⟩) hHeld ?_
      rotate_left
      · (intro w hSw; go_simp; (try with_reducible rfl))
      simp only [Act.put, List.getElem_toArray, List.getElem_cons_zero, List.getElem_cons_succ, List.setIfInBounds_toArray, List.set_cons_zero, List.set_cons_succ]
      refine wpAnyH_take (i := 3) (v := ?_) rfl (by kernel_rfl) (by kernel_rfl) (by kernel_rfl) (fun _ _ _ h => h) (Or.inl ⟨by rfl, ?_⟩) hHeld ?_
      rotate_left
      · (intro w hSw; go_simp; (try with_reducible rfl))
      simp only [Act.put, List.getElem_toArray, List.getElem_cons_zero, List.getElem_cons_succ, List.setIfInBounds_toArray, List.set_cons_zero, List.set_cons_succ]
      refine wpAnyH_take (i := 4) (v := ?_) rfl (by kernel_rfl) (by kernel_rfl) (by kernel_rfl) (fun _ _ _ h => h) (Or.inl ⟨by rfl, ?_⟩) hHeld ?_
      rotate_left
      · (intro w hSw; go_simp; (try with_reducible rfl))
      simp only [Act.put, List.getElem_toArray, List.getElem_cons_zero, List.getElem_cons_succ, List.setIfInBounds_toArray, List.set_cons_zero, List.set_cons_succ]
      refine wpAnyH_take (i := 5) (v := ?_) rfl (by kernel_rfl) (by kernel_rfl) (by kernel_rfl) (fun _ _ _ h => h) (Or.inl ⟨by rfl, ?_⟩) hHeld ?_
      rotate_left
      · (intro w hSw; go_simp; (try with_reducible rfl))
      simp only [Act.put, List.getElem_toArray, List.getElem_cons_zero, List.getElem_cons_succ, List.setIfInBounds_toArray, List.set_cons_zero, List.set_cons_succ]
      refine wpAnyH_take (i := 6) (v := ?_) rfl (by kernel_rfl) (by kernel_rfl) (by kernel_rfl) (fun _ _ _ h => h) (Or.inl ⟨by rfl, ?_⟩) hHeld ?_
      rotate_left
      · (intro w hSw; go_simp; (try with_reducible rfl))
      simp only [Act.put, List.getElem_toArray, List.getElem_cons_zero, List.getElem_cons_succ, List.setIfInBounds_toArray, List.set_cons_zero, List.set_cons_succ]
      generalize w.drew = V0 at hHeld ⊢
      have hw0 := hHeld
      refine wpAnyH_ready (rs := [2, 7]) (by kernel_rfl) (by simp) ?_
      refine AllReadyH.cons rfl (fun K hK => ?_) (AllReadyH.cons rfl (fun K hK => ?_) AllReadyH.nil)
      all_goals simp only [List.getElem_toArray, List.getElem_cons_zero, List.getElem_cons_succ]
      · skip
        go_simp
        refine (ih q (by have := HQ.out; omega) _ (by have := HQ.out; omega)).mono ?_
        rintro e V1 ⟨rfl, hbv⟩
        go_wp2_with fail
        have hB1 := keepB hbv hHeld
        refine hK.out _ _ hB1 (fun _ => ?_)
        clear hK K
        try simp only [Act.put, List.setIfInBounds_toArray, List.set_cons_zero, List.set_cons_succ]
        refine anyH_rebase hB1 (fun hHeld => ?_)
        clear hbv
        rw [← HS1.out]
        refine wpAnyH_ready (rs := [7]) (by kernel_rfl) (by simp) ?_
        refine AllReadyH.cons rfl (fun K hK => ?_) AllReadyH.nil
        simp only [List.getElem_toArray, List.getElem_cons_zero, List.getElem_cons_succ]
        go_simp
        obtain ⟨V2, hW⟩ : ∃ W, W = V1.alloc (.cells #[.int .u8 (d : Int)] 5) := ⟨_, rfl⟩
        have hN := Nums.one V1 .u8 (d : Int) 5
        have hbv : Below V1.heap.size V1 V2 := by rw [hW]; exact (Below.refl _ _).alloc (Nat.le_refl _) _
        have hNv : Nums .u8 V2 V2.heap.size (some ⟨V1.heap.size, 0, none⟩) 1 [(d : Int)] := by rw [hW]; simpa using hN
        have hBb := hbv
        rw [← hW]
        clear hW hN
        refine hK.out _ _ (keepB hbv hHeld) (fun _ => ?_)
        clear hK K
        try simp only [Act.put, List.setIfInBounds_toArray, List.set_cons_zero, List.set_cons_succ]
        refine anyH_rebase (keepB hbv hHeld) (fun hHeld => ?_)
        have hst : ∀ W, Below V2.heap.size V2 W → (convert 87 9 (.slice (some ⟨V1.heap.size, 0, none⟩) 1 1)).run Tryd.prog W = .ok (.string (strOfNums [(d : Int)])) W := fun W hW => str_at (c := 1) (hNv.below hW)
        refine wpAnyH_take (i := 8) (v := ?_) rfl (by kernel_rfl) (by kernel_rfl) (by kernel_rfl) (fun _ _ _ h => h) (Or.inl ⟨by rfl, ?_⟩) hHeld ?_
        rotate_left
        · (intro w hSw; go_simp; (try with_reducible rfl))
        simp only [Act.put, List.getElem_toArray, List.getElem_cons_zero, List.getElem_cons_succ, List.setIfInBounds_toArray, List.set_cons_zero, List.set_cons_succ]
        rw [← HS2.out]
        have hsz1 : s1.size ≤ 3 := by rw [HS1.out, strOfNums_size]; exact figN_len
        have hsz : ¬ 9223372036854775807 < s1.size + s2.size := by rw [HS2.out, strOfNums_size]; simp; omega
        refine wpAnyH_take (i := 9) (v := ?_) rfl (by kernel_rfl) (by kernel_rfl) (by kernel_rfl) (fun _ _ _ h => h) (Or.inl ⟨by rfl, ?_⟩) hHeld ?_
        rotate_left
        · (intro w hSw; go_simp; (try with_reducible rfl))
        simp only [Act.put, List.getElem_toArray, List.getElem_cons_zero, List.getElem_cons_succ, List.setIfInBounds_toArray, List.set_cons_zero, List.set_cons_succ]
        refine wpAnyH_take (i := 10) (v := ?_) rfl (by kernel_rfl) (by kernel_rfl) (by kernel_rfl) (fun _ _ _ h => h) (Or.inl ⟨by rfl, ?_⟩) hHeld ?_
        rotate_left
        · (intro w hSw; go_simp; (try with_reducible rfl))
        simp only [Act.put, List.getElem_toArray, List.getElem_cons_zero, List.getElem_cons_succ, List.setIfInBounds_toArray, List.set_cons_zero, List.set_cons_succ]
        refine wpAnyH_done (by kernel_rfl) ?_ _
        go_wp2_with fail
        go_ret
        exact ⟨by rw [HF.out]; rfl, keepB hBb hB1⟩
      · skip
        go_simp
        obtain ⟨V1, hW⟩ : ∃ W, W = V0.alloc (.cells #[.int .u8 (d : Int)] 5) := ⟨_, rfl⟩
        have hN := Nums.one V0 .u8 (d : Int) 5
        have hbv : Below V0.heap.size V0 V1 := by rw [hW]; exact (Below.refl _ _).alloc (Nat.le_refl _) _
        have hNv : Nums .u8 V1 V1.heap.size (some ⟨V0.heap.size, 0, none⟩) 1 [(d : Int)] := by rw [hW]; simpa using hN
        have hBb := hbv
        rw [← hW]
        clear hW hN
        refine hK.out _ _ (keepB hbv hHeld) (fun _ => ?_)
        clear hK K
        try simp only [Act.put, List.setIfInBounds_toArray, List.set_cons_zero, List.set_cons_succ]
        refine anyH_rebase (keepB hbv hHeld) (fun hHeld => ?_)
        have hst : ∀ W, Below V1.heap.size V1 W → (convert 87 9 (.slice (some ⟨V0.heap.size, 0, none⟩) 1 1)).run Tryd.prog W = .ok (.string (strOfNums [(d : Int)])) W := fun W hW => str_at (c := 1) (hNv.below hW)
        refine wpAnyH_take (i := 8) (v := ?_) rfl (by kernel_rfl) (by kernel_rfl) (by kernel_rfl) (fun _ _ _ h => h) (Or.inl ⟨by rfl, ?_⟩) hHeld ?_
        rotate_left
        · (intro w hSw; go_simp; (try with_reducible rfl))
        simp only [Act.put, List.getElem_toArray, List.getElem_cons_zero, List.getElem_cons_succ, List.setIfInBounds_toArray, List.set_cons_zero, List.set_cons_succ]
        rw [← HS2.out]
        refine wpAnyH_ready (rs := [2]) (by kernel_rfl) (by simp) ?_
        refine AllReadyH.cons rfl (fun K hK => ?_) AllReadyH.nil
        simp only [List.getElem_toArray, List.getElem_cons_zero, List.getElem_cons_succ]
        go_simp
        refine (ih q (by have := HQ.out; omega) _ (by have := HQ.out; omega)).mono ?_
        rintro e V2 ⟨rfl, hbv⟩
        go_wp2_with fail
        have hB2 := keepB hbv hHeld
        refine hK.out _ _ hB2 (fun _ => ?_)
        clear hK K
        try simp only [Act.put, List.setIfInBounds_toArray, List.set_cons_zero, List.set_cons_succ]
        refine anyH_rebase hB2 (fun hHeld => ?_)
        clear hbv
        rw [← HS1.out]
        have hsz1 : s1.size ≤ 3 := by rw [HS1.out, strOfNums_size]; exact figN_len
        have hsz : ¬ 9223372036854775807 < s1.size + s2.size := by rw [HS2.out, strOfNums_size]; simp; omega
        refine wpAnyH_take (i := 9) (v := ?_) rfl (by kernel_rfl) (by kernel_rfl) (by kernel_rfl) (fun _ _ _ h => h) (Or.inl ⟨by rfl, ?_⟩) hHeld ?_
        rotate_left
        · (intro w hSw; go_simp; (try with_reducible rfl))
        simp only [Act.put, List.getElem_toArray, List.getElem_cons_zero, List.getElem_cons_succ, List.setIfInBounds_toArray, List.set_cons_zero, List.set_cons_succ]
        refine wpAnyH_take (i := 10) (v := ?_) rfl (by kernel_rfl) (by kernel_rfl) (by kernel_rfl) (fun _ _ _ h => h) (Or.inl ⟨by rfl, ?_⟩) hHeld ?_
        rotate_left
        · (intro w hSw; go_simp; (try with_reducible rfl))
        simp only [Act.put, List.getElem_toArray, List.getElem_cons_zero, List.getElem_cons_succ, List.setIfInBounds_toArray, List.set_cons_zero, List.set_cons_succ]
        refine wpAnyH_done (by kernel_rfl) ?_ _
        go_wp2_with fail
        go_ret
        exact ⟨by rw [HF.out]; rfl, keepB hB2 (keepB hBb hw0)⟩
end Go.Proofs.YtmdfgkfimlmmnaaDoor
namespace Go.Proofs.YtmdfgkfimlmmnaaDoor
open Go.RowKit Ex Mx Wx
namespace Ex
def wordK (k : Int) : List Int := if k = 0 then [115, 111, 117, 114, 99, 101] else if k = 1 then [98, 101, 97, 115, 116] else if k = 2 then [109, 97, 103, 105, 99] else [114, 101, 108, 105, 99]
/-- The name of a card below 120. -/
def nameN (n : Nat) : List Int := (if n < 112 then wordK (tblC n).kind else [116, 111, 107, 101, 110]) ++ [45] ++ figN n
def nameX (x : Int) : List Int := if 0 ≤ x ∧ x ≤ 119 then nameN x.toNat else []
theorem kind_few : ∀ n < 112, 0 ≤ (tblC n).kind ∧ (tblC n).kind ≤ 3 := by decide +kernel
end Ex
theorem cq_size {Q : Nat → Prop} {w : World} {d : Nat} {cs : Array Value} {c : CardT} (h : ReadsCQ Q w d cs c) : cs.size = 13 := by
  obtain ⟨_, _, _, _, _, _, A, cc, rfl, _⟩ := h
  simp [cardC, arr_size]
theorem cq_one {Q : Nat → Prop} {w : World} {d : Nat} {cs : Array Value} {c : CardT} (h : ReadsCQ Q w d cs c) : cs.all (·.oneCell') = true := by
  obtain ⟨_, _, _, _, _, _, A, cc, rfl, _⟩ := h
  exact card_one _ _ _ _
theorem cq_info {Q : Nat → Prop} {w : World} {d : Nat} {cs : Array Value} {c : CardT} (h : ReadsCQ Q w d cs c) : (Tryd.prog.info? 27).map (·.size) = some cs.size := by rw [cq_size h]; exact size13
set_option linter.unusedSimpArgs false in
set_option maxRecDepth 100000 in
set_option maxHeartbeats 1000000 in
theorem nameRef_in (R : ∀ (n : Nat) (w : World), n < 120 → Calls Tryd.prog 9 #[.int .i64 (n : Int)] w (CardQ (tblC n) (.bool true) w)) (n : Nat) (w : World) (hn : n < 120) :
    Calls Tryd.prog 13 #[.int .i64 (n : Int)] w fun e w' => e = .returned (.string (strOfNums (nameN n))) ∧ Below w.heap.size w w' := by
  go_enter Tryd.func13, Tryd.ntmps13
  go_wp2_with fail
  refine (R n w hn).mono ?_
  rintro e w1 ⟨cs, rfl, hr, hb1⟩
  have hsx := cq_info hr
  have hcs := cq_size hr
  have h1 := cq_one hr
  have hnew : (w1.alloc (.cells zeroD 27)).heap[w1.heap.size]? = some (.cells zeroD 27 (0, 0)) := heap_alloc_new _ _
  go_upto_region 2 with (refine wpList_store_row rfl 27 (.tmp 3) (.tmp 9) rfl w1.heap.size _ rfl rfl 27 zeroD hnew hsx (by rw [hcs]; rfl) h1 ?_)
  obtain ⟨w2, hw2, hC2, hb2⟩ := cd_box w1 (xs := cs)
  rw [← hw2]
  clear hw2 hnew hsx hcs h1
  have hbw2 := keepB hb2 hb1
  by_cases h112 : n < 112
  · have d0 : decide ((n : Int) < 112) = true := by simp; omega
    obtain ⟨_, _, _, _, _, _, A, cc, hcs, _⟩ := hr
    have c0 : w2.cell? ⟨w1.heap.size, 0, none⟩ = some (.int .i64 (tblC n).kind) := by rw [hC2.cell, hcs]; exact cd_kind
    obtain ⟨k0, k3⟩ := kind_few n h112
    have HNm0 := Lib.hid (show nameN n = wordK (tblC n).kind ++ [45] ++ figN n by unfold nameN; rw [if_pos h112])
    obtain ⟨kd, hkd⟩ : ∃ x, x = (tblC n).kind := ⟨_, rfl⟩
    rw [← hkd] at c0 k0 k3 HNm0
    have c0' : ∀ o, (w2.alloc o).cell? ⟨w1.heap.size, 0, none⟩ = some (.int .i64 kd) := fun o => (World.cell?_alloc_lt w2 o ⟨w1.heap.size, 0, none⟩ hC2.lt).trans c0
    clear hkd hcs hC2 c0
    have hk : kd = 0 ∨ kd = 1 ∨ kd = 2 ∨ kd = 3 := by omega
    clear k0 k3 h112
    rcases hk with rfl | rfl | rfl | rfl
    · have HNm := Lib.hid (show nameN n = [115, 111, 117, 114, 99, 101, 45] ++ figN n from HNm0.out)
      go_wp2_with fail
      obtain ⟨pf, hpf⟩ : ∃ s : ByteArray, s = (⟨#[115, 111, 117, 114, 99, 101]⟩ ++ ⟨#[45]⟩ : ByteArray) := ⟨_, rfl⟩
      rw [← hpf]
      have hpf2 : pf = strOfNums [115, 111, 117, 114, 99, 101, 45] := by rw [hpf, mk_append]; rfl
      clear hpf
      have hps : pf.size ≤ 8 := by rw [hpf2, strOfNums_size]; decide
      refine (figRef_any n _ (by omega)).mono ?_
      rintro e w5 ⟨rfl, hb5⟩
      obtain ⟨s, hs⟩ : ∃ s, s = strOfNums (figN n) := ⟨_, rfl⟩
      rw [← hs]
      have hsz : s.size ≤ 3 := by rw [hs, strOfNums_size]; exact figN_len
      have hsz2 : ¬ 9223372036854775807 < pf.size + s.size := by omega
      have HF := Lib.hid (show Value.string (strOfNums (nameN n)) = .string (pf ++ s) by rw [HNm.out, hs, hpf2, str_append])
      clear hs hpf2
      go_wp2_with fail
      go_ret
      exact ⟨by rw [HF.out]; rfl, keepB hb5 (hbw2.alloc (by have := hbw2.size; omega) _)⟩
    · have HNm := Lib.hid (show nameN n = [98, 101, 97, 115, 116, 45] ++ figN n from HNm0.out)
      go_wp2_with fail
      obtain ⟨pf, hpf⟩ : ∃ s : ByteArray, s = (⟨#[98, 101, 97, 115, 116]⟩ ++ ⟨#[45]⟩ : ByteArray) := ⟨_, rfl⟩
      rw [← hpf]
      have hpf2 : pf = strOfNums [98, 101, 97, 115, 116, 45] := by rw [hpf, mk_append]; rfl
      clear hpf
      have hps : pf.size ≤ 8 := by rw [hpf2, strOfNums_size]; decide
      refine (figRef_any n _ (by omega)).mono ?_
      rintro e w5 ⟨rfl, hb5⟩
      obtain ⟨s, hs⟩ : ∃ s, s = strOfNums (figN n) := ⟨_, rfl⟩
      rw [← hs]
      have hsz : s.size ≤ 3 := by rw [hs, strOfNums_size]; exact figN_len
      have hsz2 : ¬ 9223372036854775807 < pf.size + s.size := by omega
      have HF := Lib.hid (show Value.string (strOfNums (nameN n)) = .string (pf ++ s) by rw [HNm.out, hs, hpf2, str_append])
      clear hs hpf2
      go_wp2_with fail
      go_ret
      exact ⟨by rw [HF.out]; rfl, keepB hb5 (hbw2.alloc (by have := hbw2.size; omega) _)⟩
    · have HNm := Lib.hid (show nameN n = [109, 97, 103, 105, 99, 45] ++ figN n from HNm0.out)
      go_wp2_with fail
      obtain ⟨pf, hpf⟩ : ∃ s : ByteArray, s = (⟨#[109, 97, 103, 105, 99]⟩ ++ ⟨#[45]⟩ : ByteArray) := ⟨_, rfl⟩
      rw [← hpf]
      have hpf2 : pf = strOfNums [109, 97, 103, 105, 99, 45] := by rw [hpf, mk_append]; rfl
      clear hpf
      have hps : pf.size ≤ 8 := by rw [hpf2, strOfNums_size]; decide
      refine (figRef_any n _ (by omega)).mono ?_
      rintro e w5 ⟨rfl, hb5⟩
      obtain ⟨s, hs⟩ : ∃ s, s = strOfNums (figN n) := ⟨_, rfl⟩
      rw [← hs]
      have hsz : s.size ≤ 3 := by rw [hs, strOfNums_size]; exact figN_len
      have hsz2 : ¬ 9223372036854775807 < pf.size + s.size := by omega
      have HF := Lib.hid (show Value.string (strOfNums (nameN n)) = .string (pf ++ s) by rw [HNm.out, hs, hpf2, str_append])
      clear hs hpf2
      go_wp2_with fail
      go_ret
      exact ⟨by rw [HF.out]; rfl, keepB hb5 (hbw2.alloc (by have := hbw2.size; omega) _)⟩
    · have HNm := Lib.hid (show nameN n = [114, 101, 108, 105, 99, 45] ++ figN n from HNm0.out)
      go_wp2_with fail
      obtain ⟨pf, hpf⟩ : ∃ s : ByteArray, s = (⟨#[114, 101, 108, 105, 99]⟩ ++ ⟨#[45]⟩ : ByteArray) := ⟨_, rfl⟩
      rw [← hpf]
      have hpf2 : pf = strOfNums [114, 101, 108, 105, 99, 45] := by rw [hpf, mk_append]; rfl
      clear hpf
      have hps : pf.size ≤ 8 := by rw [hpf2, strOfNums_size]; decide
      refine (figRef_any n _ (by omega)).mono ?_
      rintro e w5 ⟨rfl, hb5⟩
      obtain ⟨s, hs⟩ : ∃ s, s = strOfNums (figN n) := ⟨_, rfl⟩
      rw [← hs]
      have hsz : s.size ≤ 3 := by rw [hs, strOfNums_size]; exact figN_len
      have hsz2 : ¬ 9223372036854775807 < pf.size + s.size := by omega
      have HF := Lib.hid (show Value.string (strOfNums (nameN n)) = .string (pf ++ s) by rw [HNm.out, hs, hpf2, str_append])
      clear hs hpf2
      go_wp2_with fail
      go_ret
      exact ⟨by rw [HF.out]; rfl, keepB hb5 (hbw2.alloc (by have := hbw2.size; omega) _)⟩
  · have d0 : decide ((n : Int) < 112) = false := by simp; omega
    have HNm := Lib.hid (show nameN n = [116, 111, 107, 101, 110, 45] ++ figN n by unfold nameN; rw [if_neg h112]; rfl)
    clear h112
    go_wp2_with fail
    obtain ⟨pf, hpf⟩ : ∃ s : ByteArray, s = (⟨#[116, 111, 107, 101, 110]⟩ ++ ⟨#[45]⟩ : ByteArray) := ⟨_, rfl⟩
    rw [← hpf]
    have hpf2 : pf = strOfNums [116, 111, 107, 101, 110, 45] := by rw [hpf, mk_append]; rfl
    clear hpf
    have hps : pf.size ≤ 8 := by rw [hpf2, strOfNums_size]; decide
    refine (figRef_any n _ (by omega)).mono ?_
    rintro e w5 ⟨rfl, hb5⟩
    obtain ⟨s, hs⟩ : ∃ s, s = strOfNums (figN n) := ⟨_, rfl⟩
    rw [← hs]
    have hsz : s.size ≤ 3 := by rw [hs, strOfNums_size]; exact figN_len
    have hsz2 : ¬ 9223372036854775807 < pf.size + s.size := by omega
    have HF := Lib.hid (show Value.string (strOfNums (nameN n)) = .string (pf ++ s) by rw [HNm.out, hs, hpf2, str_append])
    clear hs hpf2
    go_wp2_with fail
    go_ret
    exact ⟨by rw [HF.out]; rfl, keepB hb5 hbw2⟩
end Go.Proofs.YtmdfgkfimlmmnaaDoor
namespace Go.Proofs.YtmdfgkfimlmmnaaDoor
open Go.RowKit Ex Mx
def Dk1 (l : List Int) (w : World) (i : Value) (wr : World) : Prop := ∃ k : Nat, i = .int .i64 ((k : Nat) : Int) ∧ k ≤ l.length ∧ (∀ (j : Nat) (x : Int), j < k → l[j]? = some x → 0 ≤ x ∧ x ≤ 111) ∧ wr = w
def Dk2 (l : List Int) (w : World) (i : Value) (wr : World) : Prop := ∃ k : Nat, i = .int .i64 ((k : Nat) : Int) ∧ k ≤ l.length ∧ (∀ (j : Nat) (x : Int), j < k → l[j]? = some x → ¬ (5 ≤ x ∧ 4 < cnt x l)) ∧ wr = w
def Dk3 (l : List Int) (w : World) (x : Int) (m i : Value) (wr : World) : Prop := ∃ k : Nat, i = .int .i64 ((k : Nat) : Int) ∧ k ≤ l.length ∧ m = .int .i64 ((cnt x (l.take k) : Nat) : Int) ∧ wr = w
set_option linter.unusedSimpArgs false in
set_option maxRecDepth 100000 in
set_option maxHeartbeats 1000000 in
theorem deckRef_any (A : Option Addr) (n c : Nat) (l : List Int) (w : World) (B : Nat) (hN : Nums .i64 w B A n l) (hn : n ≤ 1000) : Calls Tryd.prog 19 #[.slice A n c] w fun e w' => e = .returned (.int .i64 (deckL l)) ∧ w = w' := by
  have hln := hN.len
  obtain ⟨q, hq⟩ : ∃ q, q = deckL l := ⟨_, rfl⟩
  rw [← hq]
  have HN := Lib.hid hN
  clear hN
  by_cases h100 : 100 < n
  · have HQ := Lib.hid (show q = 19 from hq.trans (deck_many (by omega)))
    have d0 : decide ((100 : Int) < (n : Int)) = true := by simp; omega
    clear hq h100
    go_enter Tryd.func19, Tryd.ntmps19
    go_wp2_with fail
    go_ret
    exact ⟨by rw [HQ.out]; rfl, rfl⟩
  have d0 : decide ((100 : Int) < (n : Int)) = false := by simp; omega
  have HL := Lib.hid (show ¬ 100 < l.length by omega)
  have HQ := Lib.hid hq
  have hn1 : n ≤ 100 := by omega
  clear hq h100
  go_enter Tryd.func19, Tryd.ntmps19
  go_upto_region 4 with fail
  clear d0
  go_loopw [15] (fun i wr => Dk1 l w i wr) (fun i _ => l.length - (intOf i).toNat)
  case atStart => exact ⟨0, rfl, by omega, fun j x hj => absurd hj (by omega), rfl⟩
  case round =>
    obtain ⟨k, rfl, hk, hall, rfl⟩ := hrel
    have HAll := Lib.hid hall
    clear hall
    by_cases hlt : k < l.length
    · obtain ⟨a, rfl, _, hc⟩ := HN.out.at_ hlt
      have hd : decide ((k : Int) < (n : Int)) = true := by simp; omega
      have g0 : (0 : Int) ≤ (k : Int) := by omega
      have g1 : (k : Int) < (n : Int) := by omega
      obtain ⟨x, hx⟩ : ∃ x, x = l[k] := ⟨_, rfl⟩
      rw [← hx] at hc
      have HX := Lib.hid (show l[k]? = some x by rw [hx]; exact List.getElem?_eq_getElem hlt)
      clear hx
      by_cases hin : 0 ≤ x ∧ x ≤ 111
      · have HN2 := Lib.hid (show ∀ (j : Nat) (y : Int), j < k + 1 → l[j]? = some y → 0 ≤ y ∧ y ≤ 111 from fun j y hj hy => by
          by_cases e : j = k
          · subst e; rw [HX.out] at hy; injection hy with hy; subst hy; exact hin
          · exact HAll.out j y (by omega) hy)
        have b0 : decide (x < 0) = false := by simp; omega
        have b1 : decide (111 < x) = false := by simp; omega
        clear hin
        go_wp2_with fail
        go_roundw
        case rel => exact ⟨k + 1, by go_num, by omega, HN2.out, rfl⟩
        case measure => simp [intOf]; omega
      · have HF := Lib.hid (show q = 4 from HQ.out.trans (deck_none HL.out (List.mem_of_getElem? HX.out) (by omega)))
        have hb : (decide (x < 0) || decide (111 < x)) = true := by simp; omega
        clear hin
        go_wp2_with fail
        all_goals go_ret
        all_goals exact ⟨by rw [HF.out]; rfl, rfl⟩
    · obtain rfl : k = l.length := by omega
      have hd : decide ((l.length : Int) < (n : Int)) = false := by simp; omega
      have HA1 := Lib.hid (upto_all HAll.out (Nat.le_refl _))
      go_upto_region 10 with fail
      clear hd HAll
      go_loopw [28] (fun i wx => Dk2 l wr i wx) (fun i _ => l.length - (intOf i).toNat)
      case atStart => exact ⟨0, rfl, by omega, fun j x hj => absurd hj (by omega), rfl⟩
      case round =>
        obtain ⟨k, rfl, hk, hall, rfl⟩ := hrel
        have HAll := Lib.hid hall
        clear hall
        by_cases hlt : k < l.length
        · obtain ⟨a, rfl, _, hc⟩ := HN.out.at_ hlt
          have hd : decide ((k : Int) < (n : Int)) = true := by simp; omega
          have g0 : (0 : Int) ≤ (k : Int) := by omega
          have g1 : (k : Int) < (n : Int) := by omega
          obtain ⟨x, hx⟩ : ∃ x, x = l[k] := ⟨_, rfl⟩
          rw [← hx] at hc
          have HX := Lib.hid (show l[k]? = some x by rw [hx]; exact List.getElem?_eq_getElem hlt)
          clear hx
          go_upto_region 14 with fail
          clear hd g0 g1 hc
          go_loopw [7, 34] (fun m i wx => Dk3 l wr x m i wx) (fun _ i _ => l.length - (intOf i).toNat)
          case atStart => exact ⟨0, rfl, by omega, rfl, rfl⟩
          case round =>
            obtain ⟨j, rfl, hj, rfl, rfl⟩ := hrel
            have hcl := cnt_len x (l.take j)
            rw [List.length_take] at hcl
            by_cases hlt2 : j < l.length
            · obtain ⟨a2, e2, _, hc⟩ := HN.out.at_ hlt2
              injection e2 with e2
              subst e2
              have hd : decide ((j : Int) < (n : Int)) = true := by simp; omega
              have g0 : (0 : Int) ≤ (j : Int) := by omega
              have g1 : (j : Int) < (n : Int) := by omega
              have hsn := cnt_snoc x (l[j]) (l.take j)
              rw [← List.take_succ_eq_append_getElem hlt2] at hsn
              obtain ⟨y, hy⟩ : ∃ y, y = l[j] := ⟨_, rfl⟩
              rw [← hy] at hc hsn
              clear hy
              obtain ⟨m, hm⟩ : ∃ m, m = cnt x (l.take j) := ⟨_, rfl⟩
              rw [← hm] at hsn hcl ⊢
              clear hm
              by_cases e : y = x
              · rw [if_pos e] at hsn
                have e1 : (y == x) = true := by simpa using e
                have HS := Lib.hid hsn
                clear e hsn
                go_wp2_with fail
                go_roundw
                case rel => exact ⟨j + 1, by go_num, by omega, by rw [HS.out]; go_num, rfl⟩
                case measure => simp [intOf]; omega
              · rw [if_neg e] at hsn
                have e1 : (y == x) = false := by simpa using e
                have HS := Lib.hid hsn
                clear e hsn
                go_wp2_with fail
                go_roundw
                case rel => exact ⟨j + 1, by go_num, by omega, by rw [HS.out], rfl⟩
                case measure => simp [intOf]; omega
            · obtain rfl : j = l.length := by omega
              have hd : decide ((l.length : Int) < (n : Int)) = false := by simp; omega
              rw [List.take_length] at hcl ⊢
              by_cases hb : 5 ≤ x ∧ 4 < cnt x l
              · have HF := Lib.hid (show q = 8 from HQ.out.trans (deck_twice HL.out HA1.out (List.mem_of_getElem? HX.out) hb))
                have b0 : decide (5 ≤ x) = true := by simp; omega
                have b1 : decide ((4 : Int) < ((cnt x l : Nat) : Int)) = true := by simp; omega
                clear hb
                go_wp2_with fail
                go_ret
                exact ⟨by rw [HF.out]; rfl, rfl⟩
              · have HN2 := Lib.hid (show ∀ (j : Nat) (y : Int), j < k + 1 → l[j]? = some y → ¬ (5 ≤ y ∧ 4 < cnt y l) from fun j y hj hy => by
                  by_cases e : j = k
                  · subst e; rw [HX.out] at hy; injection hy with hy; subst hy; exact hb
                  · exact HAll.out j y (by omega) hy)
                by_cases h5 : 5 ≤ x
                · have b0 : decide (5 ≤ x) = true := by simp; omega
                  have b1 : decide ((4 : Int) < ((cnt x l : Nat) : Int)) = false := by simp; omega
                  clear hb h5
                  go_wp2_with fail
                  go_roundw
                  case rel => exact ⟨k + 1, by go_num, by omega, HN2.out, rfl⟩
                  case measure => simp [intOf]; omega
                · have b0 : decide (5 ≤ x) = false := by simp; omega
                  clear hb h5
                  go_wp2_with fail
                  go_roundw
                  case rel => exact ⟨k + 1, by go_num, by omega, HN2.out, rfl⟩
                  case measure => simp [intOf]; omega
        · obtain rfl : k = l.length := by omega
          have hd : decide ((l.length : Int) < (n : Int)) = false := by simp; omega
          have HF := Lib.hid (show q = 0 from HQ.out.trans (deck_fine HL.out HA1.out (upto_all HAll.out (Nat.le_refl _))))
          go_wp2_with fail
          go_ret
          exact ⟨by rw [HF.out]; rfl, rfl⟩
end Go.Proofs.YtmdfgkfimlmmnaaDoor
namespace Go.Proofs.YtmdfgkfimlmmnaaDoor
open Go.RowKit Ex Mx Wx
/-- In every world that keeps what stands in z. -/
structure TblSaid (z : World) : Prop where
  card : ∀ (x : Int) (w : World), In64 x → Below z.heap.size z w →
    Calls Tryd.prog 8 #[.int .i64 x] w (fun e w' => ∃ d cs, e = .returned (.tuple #[.agg cs, errV (if isN x = true then 0 else 4)]) ∧ ReadsCQ (fun b => w.heap.size ≤ b ∧ b < w'.heap.size) w' d cs (tblX x) ∧ Below w.heap.size w w')
  name : ∀ (x : Int) (w : World), In64 x → Below z.heap.size z w →
    Calls Tryd.prog 12 #[.int .i64 x] w fun e w' => e = .returned (.string (strOfNums (nameX x))) ∧ Below w.heap.size w w'
/-- What Deck answers. -/
def DeckSaid (z : World) : Prop := ∀ (A : Option Addr) (n c : Nat) (l : List Int) (w : World), Nums .i64 w w.heap.size A n l → n ≤ c → n ≤ 200 → Below z.heap.size z w →
  Calls Tryd.prog 18 #[.slice A n c] w fun e w' => e = .returned (errV (deckL l)) ∧ Below w.heap.size w w'
end Go.Proofs.YtmdfgkfimlmmnaaDoor
namespace Go.Proofs.YtmdfgkfimlmmnaaDoor
open Go.RowKit Ex Mx Wx
set_option linter.unusedSimpArgs false in
set_option maxRecDepth 100000 in
set_option maxHeartbeats 1000000 in
theorem tblAlive {z : World} (S : TblSaid z) (w : World) (hz : Below z.heap.size z w) : Calls Tryd.prog 7 #[] w fun e w' => e = .returned (.bool true) ∧ Below w.heap.size w w' := by
  go_enter Tryd.func7, Tryd.ntmps7
  go_wp2_with fail
  refine (S.card 65 w ⟨by decide, by decide⟩ hz).mono ?_
  rintro e w1 ⟨d, cs, rfl, hr, hb1⟩
  have hsx := cq_info hr
  have hcs := cq_size hr
  have h1 := cq_one hr
  rw [show errV (if isN 65 = true then 0 else 4) = .nilIface from rfl]
  have hnew : (w1.alloc (.cells zeroD 27)).heap[w1.heap.size]? = some (.cells zeroD 27 (0, 0)) := heap_alloc_new _ _
  go_upto_region 2 with (refine wpList_store_row rfl 27 (.tmp 1) (.tmp 5) rfl w1.heap.size _ rfl rfl 27 zeroD hnew hsx (by rw [hcs]; rfl) h1 ?_)
  obtain ⟨w2, hw2, hC2, hb2⟩ := cd_box w1 (xs := cs)
  rw [← hw2]
  clear hw2 hnew hsx hcs h1
  obtain ⟨_, _, _, _, _, _, A, cc, hcs, _, _, hx⟩ := hr
  have c0 : w2.cell? ⟨w1.heap.size, 0, none⟩ = some (.int .i64 2) := by rw [hC2.cell, hcs]; exact cd_kind
  have hct := (show CdAt w2 w1.heap.size (cardC (tblX 65) A (tblX 65).abs.length cc) by rw [← hcs]; exact hC2).cost
  rw [arr6] at hct
  have y0 : w2.cell? ⟨w1.heap.size, 3, none⟩ = some (.int .i64 1) := hct 0 _ rfl
  have y1 : w2.cell? ⟨w1.heap.size, 4, none⟩ = some (.int .i64 0) := hct 1 _ rfl
  have y2 : w2.cell? ⟨w1.heap.size, 5, none⟩ = some (.int .i64 0) := hct 2 _ rfl
  have y3 : w2.cell? ⟨w1.heap.size, 6, none⟩ = some (.int .i64 0) := hct 3 _ rfl
  have y4 : w2.cell? ⟨w1.heap.size, 7, none⟩ = some (.int .i64 0) := hct 4 _ rfl
  have y5 : w2.cell? ⟨w1.heap.size, 8, none⟩ = some (.int .i64 3) := hct 5 _ rfl
  have heq : ∀ W, (binOp .eql 24 (.agg #[.int .i64 1, .int .i64 0, .int .i64 0, .int .i64 0, .int .i64 0, .int .i64 3]) (.agg #[.int .i64 1, .int .i64 0, .int .i64 0, .int .i64 0, .int .i64 0, .int .i64 3])).run Tryd.prog W = .ok (.bool true) W := fun _ => by kernel_rfl
  obtain ⟨b, o, ys, hA, hq, _, hrg, hra⟩ := hx 0 _ rfl
  subst hA
  have c12 : w2.cell? ⟨w1.heap.size, 12, none⟩ = some (.slice (some ⟨b, o * 14, none⟩) 1 cc) := by rw [hC2.cell, hcs]; exact cd_abs
  obtain ⟨_, _, _, xs, hye, hrx⟩ := hra
  have k8 : w2.cell? ⟨b, o * 14 + 8, none⟩ = some (.int .i64 5) := rangeAt_below hb2 hq.2 hrg 8 _ (by rw [hye, Array.getElem?_toList]; exact ab_target)
  obtain ⟨A5, c5, hxs⟩ := hrx.shape
  have k9 : w2.cell? ⟨b, o * 14 + 9, none⟩ = some (.int .i64 8) := rangeAt_below hb2 hq.2 hrg 9 _ (by rw [hye, Array.getElem?_toList]; exact (ab_op 0).trans (by rw [hxs]; rfl))
  have hbw2 := keepB hb2 hb1
  have hnm := S.name 65 w2 ⟨by decide, by decide⟩ (keepB hbw2 hz)
  rw [show strOfNums (nameX 65) = ⟨#[109, 97, 103, 105, 99, 45, 54, 53]⟩ from rfl] at hnm
  clear hcs hx hC2 hct hye hrx hxs hrg hq
  go_wp2_with fail
  refine hnm.mono ?_
  rintro e w3 ⟨rfl, hb3⟩
  go_wp2_with fail
  go_ret
  exact ⟨rfl, keepB hb3 hbw2⟩
set_option linter.unusedSimpArgs false in
set_option maxRecDepth 100000 in
set_option maxHeartbeats 1000000 in
theorem tableDecks_walk {w : World} (S : TblSaid w) (D : DeckSaid w) (A : Option Addr) (n c : Nat) (l : List Int) (hN : Nums .i64 w w.heap.size A n l) (hnc : n ≤ c) :
    Calls Tryd.prog 6 #[.slice A n c] w fun e w' => e = .returned (.bool true) ∧ Below w.heap.size w w' := by
  go_enter Tryd.func6, Tryd.ntmps6
  go_wp2_with fail
  refine (tblAlive S w (Below.refl _ _)).mono ?_
  rintro e w1 ⟨rfl, hb1⟩
  by_cases h200 : 200 < n
  · have d0 : decide ((200 : Int) < (n : Int)) = true := by simp; omega
    clear h200
    go_wp2_with fail
    go_ret
    exact ⟨rfl, hb1⟩
  have d0 : decide ((200 : Int) < (n : Int)) = false := by simp; omega
  have hN1 := hN.below hb1
  have HN1 := Lib.hid hN1
  have hn200 : n ≤ 200 := by omega
  clear h200
  go_wp2_with fail
  refine (D A n c l w1 (hN1.more hb1.size) hnc hn200 hb1).mono ?_
  rintro e w2 ⟨rfl, hb2⟩
  go_wp2_with fail
  refine (num_by (deckL l) w2).mono ?_
  rintro e w3 ⟨rfl, rfl⟩
  go_wp2_with fail
  refine (deckRef_any A n c l w2 w.heap.size ((HN1.out.belowL hb2 hb1.size)) (by omega)).mono ?_
  rintro e w4 ⟨rfl, rfl⟩
  go_wp2_with fail
  go_ret
  exact ⟨by simp, keepB hb2 hb1⟩
end Go.Proofs.YtmdfgkfimlmmnaaDoor
namespace Go.Proofs.YtmdfgkfimlmmnaaDoor
open Go.RowKit Ex Mx Wx
namespace Ex
theorem tbl_right : ∀ n < 120, chkC (tblC n) = 0 := by decide +kernel
theorem tbl_small : ∀ n < 120, (tblC n).abs.length ≤ 9 ∧ ∀ a ∈ (tblC n).abs, sizeT a.do_ ≤ 300 := by decide +kernel
end Ex
theorem tblX_small (x : Int) : SmallC (tblX x) := by
  unfold tblX
  split
  · obtain ⟨h1, h2⟩ := tbl_small x.toNat (by omega)
    exact ⟨h1, fun i a hi => h2 a (List.mem_of_getElem? hi)⟩
  · exact ⟨by simp, fun i a hi => by simp at hi⟩
set_option maxRecDepth 100000 in
theorem nameRef_out (R : ∀ (x : Int) (w : World), Calls Tryd.prog 9 #[.int .i64 x] w (CardQ (tblX x) (.bool (isN x)) w)) (x : Int) (w : World) (h : isN x = false) :
    Calls Tryd.prog 13 #[.int .i64 x] w fun e w' => e = .returned (.string ⟨#[]⟩) ∧ Below w.heap.size w w' := by
  go_enter Tryd.func13, Tryd.ntmps13
  go_wp2_with fail
  have hc := R x w
  rw [h] at hc
  refine hc.mono ?_
  rintro e w1 ⟨cs, rfl, hr, hb1⟩
  have hsx := cq_info hr
  have hcs := cq_size hr
  have h1 := cq_one hr
  have hnew : (w1.alloc (.cells zeroD 27)).heap[w1.heap.size]? = some (.cells zeroD 27 (0, 0)) := heap_alloc_new _ _
  go_upto_region 2 with (refine wpList_store_row rfl 27 (.tmp 3) (.tmp 9) rfl w1.heap.size _ rfl rfl 27 zeroD hnew hsx (by rw [hcs]; rfl) h1 ?_)
  obtain ⟨w2, hw2, _, hb2⟩ := cd_box w1 (xs := cs)
  rw [← hw2]
  clear hw2 hnew hsx hcs h1
  go_wp2_with fail
  go_ret
  exact ⟨rfl, keepB hb2 hb1⟩
theorem nameRef_any (R : ∀ (x : Int) (w : World), Calls Tryd.prog 9 #[.int .i64 x] w (CardQ (tblX x) (.bool (isN x)) w)) (x : Int) (w : World) :
    Calls Tryd.prog 13 #[.int .i64 x] w fun e w' => e = .returned (.string (strOfNums (nameX x))) ∧ Below w.heap.size w w' := by
  by_cases h : 0 ≤ x ∧ x ≤ 119
  · obtain ⟨n, rfl⟩ : ∃ n : Nat, x = (n : Int) := ⟨x.toNat, by omega⟩
    rw [show nameX (n : Int) = nameN n by unfold nameX; rw [if_pos h, Int.toNat_natCast]]
    refine nameRef_in (fun m W hm => ?_) n w (by omega)
    have := R (m : Int) W
    rw [show tblX (m : Int) = tblC m by unfold tblX; rw [if_pos (by omega), Int.toNat_natCast], show isN (m : Int) = true from decide_eq_true (by omega)] at this
    exact this
  · rw [show nameX x = [] from if_neg h]
    exact nameRef_out R x w (decide_eq_false h)
set_option linter.unusedSimpArgs false in
set_option maxRecDepth 100000 in
set_option maxHeartbeats 1000000 in
theorem tableCards_walk {w : World} (S : TblSaid w) (R : ∀ (x : Int) (w : World), Calls Tryd.prog 9 #[.int .i64 x] w (CardQ (tblX x) (.bool (isN x)) w)) (x : Int) (hx : In64 x) :
    Calls Tryd.prog 3 #[.int .i64 x] w fun e w' => e = .returned (.bool true) ∧ Below w.heap.size w w' := by
  go_enter Tryd.func3, Tryd.ntmps3
  go_wp2_with fail
  refine (tblAlive S w (Below.refl _ _)).mono ?_
  rintro e w1 ⟨rfl, hb1⟩
  go_wp2_with fail
  refine (S.card x w1 hx hb1).mono ?_
  rintro e w2 ⟨d, cs, rfl, hr, hb2⟩
  have hsx := cq_info hr
  have hcs := cq_size hr
  have h1 := cq_one hr
  obtain ⟨v, hv⟩ : ∃ v, v = errV (if isN x = true then 0 else 4) := ⟨_, rfl⟩
  rw [← hv]
  have HV := Lib.hid hv
  clear hv
  have hnew : (w2.alloc (.cells zeroD 27)).heap[w2.heap.size]? = some (.cells zeroD 27 (0, 0)) := heap_alloc_new _ _
  go_upto_region 4 with (refine wpList_store_row rfl 27 (.tmp 3) (.tmp 12) rfl w2.heap.size _ rfl rfl 27 zeroD hnew hsx (by rw [hcs]; rfl) h1 ?_)
  obtain ⟨w3, hw3, hC3, hb3⟩ := cd_box w2 (xs := cs)
  rw [← hw3]
  have hr3 := ((hr.reads (B := w2.heap.size) (fun b h => h.2)).grow hb3)
  have hbw3 := keepB hb3 (keepB hb2 hb1)
  clear hw3 hnew hb2 hb3 h1 hr
  go_wp2_with fail
  refine (R x w3).mono ?_
  rintro e w4 ⟨cs', rfl, hr', hb4⟩
  have hsx' := cq_info hr'
  have hcs' := cq_size hr'
  have h1' := cq_one hr'
  obtain ⟨B, hB⟩ : ∃ B, B = isN x := ⟨_, rfl⟩
  rw [← hB] at HV ⊢
  have HB := Lib.hid hB
  have hnew : (w4.alloc (.cells zeroD 27)).heap[w4.heap.size]? = some (.cells zeroD 27 (0, 0)) := heap_alloc_new _ _
  clear hB
  go_upto_region 5 with (refine wpList_store_row rfl 27 (.tmp 5) (.tmp 17) rfl w4.heap.size _ rfl rfl 27 zeroD hnew hsx' (by rw [hcs']; rfl) h1' ?_)
  obtain ⟨w5, hw5, hC5, hb5⟩ := cd_box w4 (xs := cs')
  rw [← hw5]
  have hr5' := ((hr'.reads (B := w4.heap.size) (fun b h => h.2)).grow hb5)
  have hb35 := keepB hb5 hb4
  have hr5 := hr3.grow hb35
  have hC3 := hC3.keep hb35
  have hbw5 := keepB hb35 hbw3
  have hcard := cards_any d 2 (tblX x) (tblX x) cs cs' w5 hr5 hr5' (tblX_small x)
  rw [sameC_refl] at hcard
  have HNm := Lib.hid (fun W (hW : Below w.heap.size w W) => S.name x W hx hW)
  have HNr := Lib.hid (fun W => nameRef_any R x W)
  obtain ⟨s, hs⟩ : ∃ s, s = strOfNums (nameX x) := ⟨_, rfl⟩
  rw [← hs] at HNm HNr
  have HRr := Lib.hid hr5
  clear hs hw5 hnew hb4 hb5 h1' hr' hr5' hr5 hr3 hcs hcs' hb35 hbw3
  cases B
  case true =>
    obtain rfl : v = .nilIface := HV.out
    go_wp2_with (first
      | (refine wantCd (by rfl) (.tmp 3) rfl w2.heap.size rfl cs hC3 hsx ?_)
      | (refine wantCd (by rfl) (.tmp 5) rfl w4.heap.size rfl cs' hC5 hsx' ?_))
    refine hcard.mono ?_
    rintro e w6 ⟨rfl, hb6⟩
    have hbw6 := keepB hb6 hbw5
    have hC6 := hC3.keep hb6
    go_wp2_with fail
    refine (HNm.out w6 hbw6).mono ?_
    rintro e w7 ⟨rfl, hb7⟩
    have hbw7 := keepB hb7 hbw6
    have hC7 := hC6.keep hb7
    go_wp2_with fail
    refine (HNr.out w7).mono ?_
    rintro e w8 ⟨rfl, hb8⟩
    have hbw8 := keepB hb8 hbw7
    have hC8 := hC7.keep hb8
    clear hcard
    go_wp2_with (refine wantCd (by rfl) (.tmp 3) rfl w2.heap.size rfl cs hC8 hsx ?_)
    have hck := checkC_any d (tblX x) cs w8 (HRr.out.grow (keepB hb8 (keepB hb7 hb6))) (tblX_small x)
    rw [show chkC (tblX x) = 0 by
      have h := of_decide_eq_true HB.out.symm
      unfold tblX; rw [if_pos h]; exact tbl_right _ (by omega), errV_nil] at hck
    refine hck.mono ?_
    rintro e w9 ⟨rfl, hb9⟩
    go_wp2_with fail
    go_ret
    exact ⟨rfl, keepB hb9 hbw8⟩
  case false =>
    obtain rfl : v = errV 4 := HV.out
    rw [errV_err (show (4 : Int) ≠ 0 by decide)]
    go_wp2_with (first
      | (refine wantCd (by rfl) (.tmp 3) rfl w2.heap.size rfl cs hC3 hsx ?_)
      | (refine wantCd (by rfl) (.tmp 5) rfl w4.heap.size rfl cs' hC5 hsx' ?_))
    refine hcard.mono ?_
    rintro e w6 ⟨rfl, hb6⟩
    have hbw6 := keepB hb6 hbw5
    clear hcard
    go_wp2_with fail
    have his := is_by 4 4 w6
    rw [errV_err (show (4 : Int) ≠ 0 by decide)] at his
    refine his.mono ?_
    rintro e w6b ⟨rfl, rfl⟩
    go_wp2_with fail
    refine (HNm.out w6 hbw6).mono ?_
    rintro e w7 ⟨rfl, hb7⟩
    have hbw7 := keepB hb7 hbw6
    go_wp2_with fail
    refine (HNr.out w7).mono ?_
    rintro e w8 ⟨rfl, hb8⟩
    go_wp2_with fail
    go_ret
    exact ⟨rfl, keepB hb8 hbw7⟩
end Go.Proofs.YtmdfgkfimlmmnaaDoor
namespace Go.Proofs.YtmdfgkfimlmmnaaDoor
open Go.RowKit Ex Mx Wx
namespace Ex
theorem names_apart : ∀ n < 120, ∀ m < 120, nameN n = nameN m → n = m := by decide +kernel
theorem names_bytes : ∀ n < 120, ∀ x ∈ nameN n, 0 ≤ x ∧ x < 256 := by decide +kernel
/-- The number with that name, and whether there is one. -/
def NumR (s : ByteArray) (k : Int) (b : Bool) : Prop := (b = true ∧ ∃ n : Nat, n < 120 ∧ k = (n : Int) ∧ strOfNums (nameN n) = s) ∨ (b = false ∧ k = 0 ∧ ∀ n : Nat, n < 120 → strOfNums (nameN n) ≠ s)
theorem str_eq_iff (s t : ByteArray) : (s.toList == t.toList) = true ↔ s = t := by
  rw [beq_iff_eq]
  constructor
  · intro e
    rw [ByteArray.toList_eq, ByteArray.toList_eq] at e
    exact ByteArray.ext (Array.toList_inj.1 e)
  · intro e; rw [e]
theorem str_ne {s t : ByteArray} (h : s ≠ t) : (s.toList == t.toList) = false := by
  rw [Bool.eq_false_iff]; exact fun e => h ((str_eq_iff s t).1 e)
theorem numR_one {s : ByteArray} {k k' : Int} {b b' : Bool} (h : NumR s k b) (h' : NumR s k' b') : k = k' ∧ b = b' := by
  rcases h with ⟨rfl, n, hn, rfl, e⟩ | ⟨rfl, rfl, e⟩
  · rcases h' with ⟨rfl, m, hm, rfl, e'⟩ | ⟨rfl, rfl, e'⟩
    · have : nameN n = nameN m := by
        have hb := e.trans e'.symm
        exact (str_inj (names_bytes n hn) (names_bytes m hm)).1 hb
      rw [names_apart n hn m hm this]
      exact ⟨rfl, rfl⟩
    · exact absurd e (e' n hn)
  · rcases h' with ⟨rfl, m, hm, rfl, e'⟩ | ⟨rfl, rfl, e'⟩
    · exact absurd e' (e m hm)
    · exact ⟨rfl, rfl⟩
end Ex
/-- What Number answers. -/
def NumberSaid (z : World) : Prop := ∀ (s : ByteArray) (w : World), s.size ≤ 100 → Below z.heap.size z w →
  Calls Tryd.prog 16 #[.string s] w fun e w' => ∃ k b, NumR s k b ∧ e = .returned (.tuple #[.int .i64 k, .bool b]) ∧ Below w.heap.size w w'
def NmRel (s : ByteArray) (w1 : World) (k b i : Value) (wr : World) : Prop :=
  ∃ (j : Nat) (kk : Int) (bb : Bool), i = .int .i64 ((j : Nat) : Int) ∧ k = .int .i64 kk ∧ b = .bool bb ∧ j ≤ 120 ∧ ((bb = true ∧ ∃ n : Nat, n < j ∧ kk = (n : Int) ∧ strOfNums (nameN n) = s) ∨ (bb = false ∧ kk = 0 ∧ ∀ n : Nat, n < j → strOfNums (nameN n) ≠ s)) ∧ Below w1.heap.size w1 wr
set_option linter.unusedSimpArgs false in
set_option maxRecDepth 100000 in
set_option maxHeartbeats 1000000 in
theorem tableNames_walk {w : World} (S : TblSaid w) (U : NumberSaid w) (R : ∀ (x : Int) (w : World), Calls Tryd.prog 9 #[.int .i64 x] w (CardQ (tblX x) (.bool (isN x)) w)) (s : ByteArray) :
    Calls Tryd.prog 5 #[.string s] w fun e w' => e = .returned (.bool true) ∧ Below w.heap.size w w' := by
  go_enter Tryd.func5, Tryd.ntmps5
  go_wp2_with fail
  refine (tblAlive S w (Below.refl _ _)).mono ?_
  rintro e w1 ⟨rfl, hb1⟩
  by_cases h100 : 100 < s.size
  · have d0 : decide ((100 : Int) < (s.size : Int)) = true := by simp; omega
    clear h100
    go_wp2_with fail
    go_ret
    exact ⟨rfl, hb1⟩
  have d0 : decide ((100 : Int) < (s.size : Int)) = false := by simp; omega
  have hs100 : s.size ≤ 100 := by omega
  clear h100
  go_wp2_with fail
  refine (U s w1 hs100 hb1).mono ?_
  rintro e w2 ⟨k, b, hk, rfl, hb2⟩
  have HK := Lib.hid hk
  have hbw2 := keepB hb2 hb1
  clear hk d0 hs100
  go_upto_region 8 with fail
  go_loopw [5, 6, 7] (fun v q i wr => NmRel s w2 v q i wr) (fun _ _ i _ => 120 - (intOf i).toNat)
  case atStart => exact ⟨0, 0, false, rfl, rfl, rfl, by omega, .inr ⟨rfl, rfl, fun n hn => absurd hn (by omega)⟩, Below.refl _ _⟩
  case round =>
    obtain ⟨j, kk, bb, rfl, rfl, rfl, hj, hr, hb⟩ := hrel
    have HR := Lib.hid hr
    clear hr
    by_cases hlt : j < 120
    · have hd : decide ((j : Int) < 120) = true := by simp; omega
      have hnm := nameRef_any R (j : Int) wr
      rw [show nameX (j : Int) = nameN j by unfold nameX; rw [if_pos (by omega), Int.toNat_natCast]] at hnm
      obtain ⟨t, ht⟩ : ∃ t, t = strOfNums (nameN j) := ⟨_, rfl⟩
      rw [← ht] at hnm
      go_wp2_with fail
      refine hnm.mono ?_
      rintro e w3 ⟨rfl, hb3⟩
      have hb23 := keepB hb3 hb
      by_cases hts : t = s
      · have e1 : (t.toList == s.toList) = true := (str_eq_iff t s).2 hts
        have HN := Lib.hid (show strOfNums (nameN j) = s from ht.symm.trans hts)
        clear hts hnm ht
        go_wp2_with fail
        go_roundw
        case rel => exact ⟨j + 1, (j : Int), true, by go_num, rfl, rfl, by omega, .inl ⟨rfl, j, by omega, rfl, HN.out⟩, hb23⟩
        case measure => simp [intOf]; omega
      · have e1 : (t.toList == s.toList) = false := str_ne hts
        have HN := Lib.hid (show strOfNums (nameN j) ≠ s from fun e => hts (ht.trans e))
        clear hts hnm ht
        go_wp2_with fail
        go_roundw
        case rel =>
          refine ⟨j + 1, kk, bb, by go_num, rfl, rfl, by omega, ?_, hb23⟩
          rcases HR.out with ⟨h1, n, hn, h2, h3⟩ | ⟨h1, h2, h3⟩
          · exact .inl ⟨h1, n, by omega, h2, h3⟩
          · exact .inr ⟨h1, h2, fun n hn => by
              by_cases e : n = j
              · subst e; exact HN.out
              · exact h3 n (by omega)⟩
        case measure => simp [intOf]; omega
    · obtain rfl : j = 120 := by omega
      have hN : NumR s kk bb := HR.out
      obtain ⟨rfl, rfl⟩ := numR_one HK.out hN
      go_wp2_with fail
      go_ret
      exact ⟨by simp, keepB hb hbw2⟩
end Go.Proofs.YtmdfgkfimlmmnaaDoor
