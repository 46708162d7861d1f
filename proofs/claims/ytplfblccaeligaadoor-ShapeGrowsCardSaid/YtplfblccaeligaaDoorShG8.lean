/- Layer 17: the document's Beasts. Layer 17: the document's Statics, walked. Layer 10: which two states are the same; comparing players. Layer 10: two boxes with states, side by side. -/
import Derived.Test.YtplfblccaeligaaDoorShRef1
import Derived.Test.YtplfblccaeligaaDoorShG7
import Derived.Deep.Cut
import Derived.Test.YtplfblccaeligaaDoorShG4
import Derived.Test.YtplfblccaeligaaDoorReg
namespace Go.Proofs.YtplfblccaeligaaDoor
open Go.RowKit Ex Mx
set_option maxRecDepth 100000
theorem isB_in {s : StT} {id : Int} (h : isB s id = true) : InS s id := by
  unfold isB at h
  simp only [Bool.and_eq_true, decide_eq_true_eq] at h
  exact h.1.1
set_option linter.unusedSimpArgs false in
set_option maxHeartbeats 0 in
theorem beastsRef_any (s : StT) (O : SlT) (L : Nat → SlT) (cs : Array Value) (p : Int) (w : World) (hR : ReadsS w.heap.size w cs s O L) (hn : s.objs.length ≤ 1000000) (hl : (s.lists 8).length ≤ 1000000) :
    Calls Tryd.prog 20 #[.agg cs, .int .i64 p] w fun en w' => ∃ A n c, en = .returned (.slice A n c) ∧ n ≤ c ∧ Nums .i64 w' w'.heap.size A n (beastS s p) ∧ Below w.heap.size w w' := by
  obtain ⟨i0, hi, hz0, hz1, hz2⟩ := info_parts info_intS
  have hcs := hR.size
  have c0 : cs[0]? = some (.slice O.A O.n O.c) := by rw [hR.cs]; exact stC_objs _ _ _ _
  have c9 : cs[9]? = some (.slice (L 8).A (L 8).n (L 8).c) := by rw [hR.cs]; exact stC_list _ _ _ _ (z := 8) (by omega)
  have HR := Lib.hid hR
  have hOn := hR.on
  have hLn := (hR.l 8 (by omega)).len
  rw [hOn] at c0
  have hba : Below w.heap.size w (w.alloc (.cells cs 29)) := (Below.refl _ _).alloc (Nat.le_refl _) _
  have hs1 : StAt (w.alloc (.cells cs 29)) w.heap.size cs := StAt.new w cs
  obtain ⟨q, hq⟩ : ∃ q, q = (L 8).n := ⟨_, rfl⟩
  rw [← hq] at c9 hLn
  have hNl : Nums .i64 w w.heap.size (L 8).A q (s.lists 8) := by rw [hq]; exact hR.l 8 (by omega)
  obtain ⟨AL, hAL⟩ : ∃ A, A = (L 8).A := ⟨_, rfl⟩
  rw [← hAL] at c9 hNl
  obtain ⟨cL, hcL⟩ : ∃ A, A = (L 8).c := ⟨_, rfl⟩
  rw [← hcL] at c9
  have HNL := Lib.hid hNl
  have HC0 := Lib.hid c0
  have HLn := Lib.hid hLn
  have hq1 : q ≤ 1000000 := by omega
  clear hR hOn hq hAL hcL hNl c0 hLn hl
  go_enter Tryd.func20, Tryd.ntmps20
  go_upto_region 1 with fail
  obtain ⟨w1, hw1⟩ : ∃ w1, w1 = w.alloc (.cells cs 29) := ⟨_, rfl⟩
  rw [← hw1] at hba hs1
  rw [← hw1]
  obtain ⟨gs, hgs⟩ : ∃ g, g = w.heap.size := ⟨_, rfl⟩
  rw [← hgs] at hs1
  rw [← hgs]
  have HBA := Lib.hid hba
  have HS1 := Lib.hid hs1
  have k9 : (w1.alloc (.cells #[] 3)).cell? ⟨gs, 9, none⟩ = some (.slice AL q cL) := by
    rw [(hs1.keep ((Below.refl _ _).alloc (Nat.le_refl _) (.cells #[] 3))).cell]; exact c9
  have HV0 := Lib.hid (show IW w1 (some ⟨w1.heap.size, 0, none⟩) 0 0 (beastL s p ((s.lists 8).take 0)) (w1.alloc (.cells #[] 3)) from ⟨own_empty w1 _ (Nat.le_refl _), (Below.refl _ _).alloc (Nat.le_refl _) _⟩)
  clear hw1 hgs hba hs1 c9
  go_upto_region 3 with fail
  clear k9
  go_loopw [5, 13] (fun o i wr => ∃ (k m2 c2 : Nat) (A2 : Option Addr), i = .int .i64 ((k : Nat) : Int) ∧ o = .slice A2 m2 c2 ∧ k ≤ q ∧ m2 ≤ k ∧ Hid (IW w1 A2 m2 c2 (beastL s p ((s.lists 8).take k)) wr)) (fun _ i _ => q - (intOf i).toNat)
  case atStart => exact ⟨0, 0, 0, _, rfl, rfl, by omega, by omega, HV0⟩
  case round =>
    clear HV0
    obtain ⟨k, m2, c2, A2, rfl, rfl, hk, hmk, HV⟩ := hrel
    by_cases hlt : k < q
    · have hbw := keepB HV.out.b HBA.out
      obtain ⟨a, hA, _, hcell⟩ := (HNL.out.below hbw).at_ (show k < (s.lists 8).length by rw [HLn.out]; exact hlt)
      subst hA
      obtain ⟨id, hid⟩ : ∃ id, id = (s.lists 8)[k]'(by rw [HLn.out]; exact hlt) := ⟨_, rfl⟩
      rw [← hid] at hcell
      have HId := Lib.hid (show (s.lists 8).take (k + 1) = (s.lists 8).take k ++ [id] from by
        rw [List.take_add_one, List.getElem?_eq_getElem (by rw [HLn.out]; exact hlt), ← hid]; rfl)
      have hsr := HS1.out.keep HV.out.b
      have his := isRef_any s O L cs id wr (HR.out.grow hbw) hn
      have p0 : (0 : Int) ≤ (k : Int) := by omega
      have p1 : (k : Int) < (q : Int) := by omega
      have HBW := Lib.hid hbw
      clear hid hbw
      go_wp2_with (refine load_wantS (by rfl) (.tmp 2) rfl gs rfl cs hsr hcs ?_)
      refine his.mono ?_
      rintro en w2 ⟨rfl, hb2⟩
      have HV2 := Lib.hid (HV.out.keep hb2)
      have HB2 := Lib.hid (keepB hb2 HBW.out)
      clear his hsr HV hb2 HBW hcell
      by_cases hbb : isB s id = true
      · obtain ⟨j, ob, rfl, hj, ho, hos⟩ := (isB_in hbb).ob
        obtain ⟨b, off, hA0, hb, hc2⟩ := obj_num HR.out.o ho
        have k2 : w2.cell? ⟨b, off + j * 18 + 2, none⟩ = some (.int .i64 (ob 2)) := (HB2.out.cell (show (⟨b, off + j * 18 + 2, none⟩ : Addr).block < w.heap.size from hb)).trans (hc2 2 (by omega))
        have k0 : w2.cell? ⟨gs, 0, none⟩ = some (.slice (some ⟨b, off, none⟩) s.objs.length O.c) := by
          rw [(HS1.out.keep HV2.out.b).cell, HC0.out, hA0]
        have p2 : (0 : Int) ≤ (j : Int) := by omega
        have p3 : (j : Int) < (s.objs.length : Int) := by omega
        by_cases hp : ob 2 = p
        · have HSeg := Lib.hid (show beastL s p ((s.lists 8).take (k + 1)) = beastL s p ((s.lists 8).take k) ++ [(j : Int)] from by
            rw [HId.out, beastL_app]; simp only [beastL]; rw [if_pos ⟨hbb, by rw [hos]; exact hp⟩, List.append_nil])
          have d0 : (ob 2 == p) = true := by simp [hp]
          have hbA : Below w2.heap.size w2 (w2.alloc (.cells #[.int .i64 (j : Int)] 3)) := (Below.refl _ _).alloc (Nat.le_refl _) _
          have hO := HV2.out.own.alloc (.cells #[.int .i64 (j : Int)] 3)
          have HBB := Lib.hid (keepB hbA HV2.out.b)
          have hsz := HBB.out.size
          rw [hbb]
          clear hbb hos ho hA0 hb hc2 hbA hp HId
          go_wp2_with (at_builtin; refine wpList_app rfl (.tmp 30) (.tmp 32) _ rfl .i64 w1.heap.size 3 i0 _ 8 Tryd.underlying23 hi hz0 hz1 hz2 rfl A2 m2 c2 _ rfl hO _ (some ⟨w2.heap.size, 0, none⟩) 1 1 [(j : Int)] rfl (Nums.one _ _ _ _) (by omega) (by omega) hsz ?_; intro A7 c7 w7 ho7 hg7)
          have HV7 := Lib.hid (show IW w1 A7 (m2 + 1) c7 (beastL s p ((s.lists 8).take (k + 1))) w7 from by rw [HSeg.out]; exact ⟨ho7, hO.belowGrown HBB.out hsz hg7⟩)
          clear ho7 hg7 hO k0 k2
          go_roundw
          case rel => exact ⟨k + 1, m2 + 1, _, _, by go_num, rfl, by omega, by omega, HV7⟩
          case measure => simp [intOf]; omega
        · have HV3 := Lib.hid (show IW w1 A2 m2 c2 (beastL s p ((s.lists 8).take (k + 1))) w2 from by
            rw [HId.out, beastL_app]; simp only [beastL]; rw [if_neg (fun h => hp (by have := h.2; rw [hos] at this; exact this)), List.append_nil, List.append_nil]; exact HV2.out)
          have d0 : (ob 2 == p) = false := by simp [hp]
          rw [hbb]
          clear hbb hos ho hA0 hb hc2 HId hp HV2
          go_wp2_with fail
          go_roundw
          case rel => exact ⟨k + 1, m2, _, _, by go_num, rfl, by omega, by omega, HV3⟩
          case measure => simp [intOf]; omega
      · have HV3 := Lib.hid (show IW w1 A2 m2 c2 (beastL s p ((s.lists 8).take (k + 1))) w2 from by
          rw [HId.out, beastL_app]; simp only [beastL]; rw [if_neg (fun h => hbb h.1), List.append_nil, List.append_nil]; exact HV2.out)
        have hbf : isB s id = false := by simpa using hbb
        rw [hbf]
        clear hbb hbf HId HV2
        go_wp2_with fail
        go_roundw
        case rel => exact ⟨k + 1, m2, _, _, by go_num, rfl, by omega, by omega, HV3⟩
        case measure => simp [intOf]; omega
    · obtain rfl : k = q := by omega
      have HF := Lib.hid (show IW w1 A2 m2 c2 (beastS s p) wr from by
        have h := HV.out
        rw [List.take_of_length_le (by rw [HLn.out]; exact Nat.le_refl _)] at h
        exact h)
      have HB := Lib.hid (keepB HV.out.b HBA.out)
      clear HV
      go_wp2_with fail
      go_ret
      exact ⟨A2, m2, c2, rfl, HF.out.own.cap, HF.out.own.nums, HB.out⟩
end Go.Proofs.YtplfblccaeligaaDoor
namespace Go.Proofs.YtplfblccaeligaaDoor
open Go.RowKit Ex Mx
set_option maxRecDepth 100000
/-- Statics that are answered. -/
def StsP (s : StT) (w : World) (en : Ending) (w' : World) : Prop := ∃ A n c, en = .returned (.slice A n c) ∧ n ≤ c ∧ ShI 67 w A n c (statS s) w'
set_option linter.unusedSimpArgs false in
set_option maxHeartbeats 0 in
theorem staticsRef_any (s : StT) (O : SlT) (L : Nat → SlT) (cs : Array Value) (w : World) (hR : ReadsS w.heap.size w cs s O L) (hl : (s.lists 8).length ≤ 1000000) (hin : ∀ id ∈ s.lists 8, InS s id) :
    Calls Tryd.prog 21 #[.agg cs] w (StsP s w) := by
  have hcs := hR.size
  have c9 : cs[9]? = some (.slice (L 8).A (L 8).n (L 8).c) := by rw [hR.cs]; exact stC_list _ _ _ _ (z := 8) (by omega)
  have HR := Lib.hid hR
  have HIN := Lib.hid hin
  have hLn := (hR.l 8 (by omega)).len
  have hba : Below w.heap.size w (w.alloc (.cells cs 29)) := (Below.refl _ _).alloc (Nat.le_refl _) _
  have hs1 : StAt (w.alloc (.cells cs 29)) w.heap.size cs := StAt.new w cs
  obtain ⟨q, hq⟩ : ∃ q, q = (L 8).n := ⟨_, rfl⟩
  rw [← hq] at c9 hLn
  have hNl : Nums .i64 w w.heap.size (L 8).A q (s.lists 8) := by rw [hq]; exact hR.l 8 (by omega)
  obtain ⟨AL, hAL⟩ : ∃ A, A = (L 8).A := ⟨_, rfl⟩
  rw [← hAL] at c9 hNl
  obtain ⟨cL, hcL⟩ : ∃ A, A = (L 8).c := ⟨_, rfl⟩
  rw [← hcL] at c9
  have HNL := Lib.hid hNl
  have HLn := Lib.hid hLn
  have hq1 : q ≤ 1000000 := by omega
  clear hR hq hAL hcL hNl hLn hl hin
  go_enter Tryd.func21, Tryd.ntmps21
  go_upto_region 1 with fail
  obtain ⟨w1, hw1⟩ : ∃ w1, w1 = w.alloc (.cells cs 29) := ⟨_, rfl⟩
  rw [← hw1] at hba hs1
  rw [← hw1]
  obtain ⟨gs, hgs⟩ : ∃ g, g = w.heap.size := ⟨_, rfl⟩
  rw [← hgs] at hs1
  rw [← hgs]
  have HBA := Lib.hid hba
  have HS1 := Lib.hid hs1
  have k9 : (w1.alloc (.cells #[] 67)).cell? ⟨gs, 9, none⟩ = some (.slice AL q cL) := by
    rw [(hs1.keep ((Below.refl _ _).alloc (Nat.le_refl _) (.cells #[] 67))).cell]; exact c9
  have HV0 := Lib.hid (show ShI 67 w1 (some ⟨w1.heap.size, 0, none⟩) 0 0 (statL s ((s.lists 8).take 0)) (w1.alloc (.cells #[] 67)) from ShI.new _ _)
  clear hw1 hgs hba hs1 c9
  go_upto_region 3 with fail
  clear k9
  go_loopw [3, 13] (fun o i wr => ∃ (k m2 c2 : Nat) (A2 : Option Addr), i = .int .i64 ((k : Nat) : Int) ∧ o = .slice A2 m2 c2 ∧ k ≤ q ∧ Hid (ShI 67 w1 A2 m2 c2 (statL s ((s.lists 8).take k)) wr)) (fun _ i _ => q - (intOf i).toNat)
  case atStart => exact ⟨0, 0, 0, _, rfl, rfl, by omega, HV0⟩
  case round =>
    clear HV0
    obtain ⟨k, m2, c2, A2, rfl, rfl, hk, HV⟩ := hrel
    by_cases hlt : k < q
    · have hbw := keepB HV.out.b HBA.out
      obtain ⟨a, hA, _, hcell⟩ := (HNL.out.below hbw).at_ (show k < (s.lists 8).length by rw [HLn.out]; exact hlt)
      subst hA
      obtain ⟨id, hid⟩ : ∃ id, id = (s.lists 8)[k]'(by rw [HLn.out]; exact hlt) := ⟨_, rfl⟩
      rw [← hid] at hcell
      have HId := Lib.hid (show statL s ((s.lists 8).take (k + 1)) = statL s ((s.lists 8).take k) ++ statO id (cdS s id).abs from by
        rw [List.take_add_one, List.getElem?_eq_getElem (by rw [HLn.out]; exact hlt), ← hid, statL_app]; simp [statL])
      have hii : InS s id := HIN.out id (by rw [hid]; exact List.getElem_mem _)
      have hsr := HS1.out.keep HV.out.b
      have hcd := cardS_any s O L cs id wr (HR.out.grow hbw) hii
      have p0 : (0 : Int) ≤ (k : Int) := by omega
      have p1 : (k : Int) < (q : Int) := by omega
      clear hid hbw hii
      go_wp2_with (refine load_wantS (by rfl) (.tmp 1) rfl gs rfl cs hsr hcs ?_)
      refine hcd.mono ?_
      rintro en w2 ⟨ys, rfl, hq2, hb2⟩
      clear hcd hsr hcell
      obtain ⟨y, hy⟩ : ∃ y, y = cdS s id := ⟨_, rfl⟩
      rw [← hy] at hq2 HId
      have hy9 : y.abs.length ≤ 9 := by rw [hy]; exact cdS_nine s id
      have HS2 := Lib.hid (show ((statL s ((s.lists 8).take k)).length ≤ 9 * k) from Nat.le_trans (statL_len s _) (by have := List.length_take_le k (s.lists 8); omega))
      obtain ⟨_, _, _, _, _, _, Ac, cc, rfl, hlc, hcm, hrd⟩ := hq2
      have hab := fun W => card_list y Ac y.abs.length cc W
      have HI0 := Lib.hid (show IR 67 w1 wr.heap.size w2.heap.size Ac y.abs A2 m2 c2 (statL s ((s.lists 8).take k) ++ statO id (y.abs.take 0)) w2 from by
        obtain ⟨xs, ho, _⟩ := HV.out.ex
        refine ⟨?_, hrd, fun b e => .inl (ho.lt e), HV.out.b.size, Nat.le_refl _⟩
        simp only [List.take_zero, statO, List.append_nil]
        exact HV.out.keep hb2)
      clear hrd hy HV hb2
      go_upto_region 6 with fail
      clear hab
      obtain ⟨c0, hc0⟩ : ∃ c, c = wr.heap.size := ⟨_, rfl⟩
      obtain ⟨c1, hc1⟩ : ∃ c, c = w2.heap.size := ⟨_, rfl⟩
      obtain ⟨ln, hln⟩ : ∃ c, c = y.abs.length := ⟨_, rfl⟩
      rw [← hc0, ← hc1] at HI0
      rw [← hln] at hy9 hlc ⊢
      clear hc0 hc1
      have HLN := Lib.hid hln
      clear hln
      go_loopw [3, 22] (fun o i wr => ∃ (j m3 c3 : Nat) (A3 : Option Addr), i = .int .i64 ((j : Nat) : Int) ∧ o = .slice A3 m3 c3 ∧ j ≤ ln ∧ Hid (IR 67 w1 c0 c1 Ac y.abs A3 m3 c3 (statL s ((s.lists 8).take k) ++ statO id (y.abs.take j)) wr)) (fun _ i _ => ln - (intOf i).toNat)
      case atStart => exact ⟨0, _, _, _, rfl, rfl, by omega, HI0⟩
      case round =>
        clear HI0
        obtain ⟨j, m3, c3, A3, rfl, rfl, hj, HV⟩ := hrel
        by_cases hjt : j < ln
        · obtain ⟨a, ha⟩ : ∃ a, y.abs[j]? = some a := ⟨_, List.getElem?_eq_getElem (by rw [← HLN.out]; exact hjt)⟩
          have HN := Lib.hid (statO_take id ha)
          obtain ⟨b, o, ys, rfl, _, _, hrg, hra⟩ := HV.out.rd j a ha
          have p2 : (0 : Int) ≤ (j : Int) := by omega
          have p3 : (j : Int) < (ln : Int) := by omega
          have hys := hra.size
          have hy1 := (hra.reads (B := c1) (fun b q => q.2)).one
          have hsy : (Tryd.prog.info? 79).map (·.size) = some ys.size := by rw [hys]; exact size14
          have hnew : (wr.alloc (.cells zeroA 79)).heap[wr.heap.size]? = some (.cells zeroA 79 (0, 0)) := heap_alloc_new _ _
          go_upto_region 8 with (first
            | (refine load_ab rfl (.tmp 24) rfl b (o * 14 + j * 14) rfl ys hys hrg ?_)
            | (refine wpList_store_row rfl 79 (.tmp 7) (.tmp 25) rfl wr.heap.size _ rfl rfl 79 zeroA hnew hsy (by rw [hys]; rfl) hy1 ?_))
          obtain ⟨w4, hw4, hA4, hb4⟩ := ab_box wr (xs := ys)
          show Code.wp _ _ _ _ ((wr.alloc (.cells zeroA 79)).setRow wr.heap.size ys)
          rw [← hw4]
          have HV4 := Lib.hid (HV.out.keep hb4)
          have hra4 : ReadsAQ (fun b => c0 ≤ b ∧ b < c1) w4 2 ys a := hra.keep (fun b q => hb4.block b (Nat.lt_of_lt_of_le q.2 HV.out.hi)) (fun _ q => q)
          obtain ⟨g4, hg4⟩ : ∃ g, g = wr.heap.size := ⟨_, rfl⟩
          rw [← hg4] at hA4
          rw [← hg4]
          clear hw4 hnew hsy hy1 hrg hra hys hb4 hg4 HV
          obtain ⟨_, _, _, xs, rfl, hrx⟩ := hra4
          obtain ⟨Ae, ce, rfl⟩ := hrx.shape
          have q0 : w4.cell? ⟨g4, 0, none⟩ = some (.int .i64 a.when_) := by rw [hA4.cell]; exact ab_when
          by_cases hw5 : a.when_ = 5
          · have d5 : (a.when_ == 5) = true := by simp [hw5]
            rw [if_pos hw5] at HN
            have hxs := hrx.size
            have hdo := hA4.do_
            clear hw5
            go_upto_region 9 with fail
            have hm3 : m3 ≤ 100000000 := by
              have h1 := HV4.out.si.n_
              have h2 := statO_len id (y.abs.take j)
              have h3 := List.length_take_le j y.abs
              have h4 := HS2.out
              rw [List.length_append] at h1
              omega
            obtain ⟨ws, ho, hs⟩ := HV4.out.si.ex
            have HO := Lib.hid ho
            have HS := Lib.hid hs
            have HRX := Lib.hid hrx
            obtain ⟨e1, he1⟩ : ∃ x, x = a.do_.op := ⟨_, rfl⟩
            obtain ⟨e2, he2⟩ : ∃ x, x = a.do_.n := ⟨_, rfl⟩
            obtain ⟨e3, he3⟩ : ∃ x, x = a.do_.m := ⟨_, rfl⟩
            obtain ⟨e4, he4⟩ : ∃ x, x = a.do_.who := ⟨_, rfl⟩
            obtain ⟨e5, he5⟩ : ∃ x, x = a.do_.subs.length := ⟨_, rfl⟩
            rw [← he1, ← he2, ← he3, ← he4, ← he5] at hdo HRX hrx hxs
            have hbA : Below w4.heap.size w4 (w4.alloc (.cells #[.int .i64 id, .int .i64 e1, .int .i64 e2, .int .i64 e3, .int .i64 e4, .slice Ae e5 ce] 67)) := (Below.refl _ _).alloc (Nat.le_refl _) _
            have hap : ∀ ty, AppX Tryd.prog (w4.alloc (.cells #[.int .i64 id, .int .i64 e1, .int .i64 e2, .int .i64 e3, .int .i64 e4, .slice Ae e5 ce] 67)) 49 ty 67 6 A3 m3 c3 1 (.slice (some ⟨w4.heap.size, 0, none⟩) 1 1) (ws ++ scL id (evC e1 e2 e3 e4 Ae e5 ce)) :=
              fun ty => appSc ty (ho.stay fun k hk => hbA.block k (ho.lt hk)) hrx (heap_alloc_new _ _) hm3
            have HBA4 := Lib.hid hbA
            clear ho hs hrx hm3 hbA he1 he2 he3 he4 he5 hA4 q0 d5 ha
            unfold evC at hdo hxs
            go_wp2_with (first
              | (refine load_sub rfl (.tmp 31) rfl g4 9 rfl _ hxs hdo ?_)
              | (at_builtin; refine wpList_appX rfl (.tmp 29) (.tmp 34) 49 67 6 A3 m3 c3 1 _ _ (hap _) rfl rfl rfl ?_; intro A7 c7 w7 ho7 hg7 hk7))
            have HV7 := Lib.hid (show IR 67 w1 c0 c1 (some ⟨b, o * 14, none⟩) y.abs A7 (m3 + 1) c7 (statL s ((s.lists 8).take k) ++ statO id (y.abs.take (j + 1))) w7 from by
              rw [HN.out, ← List.append_assoc]
              exact HV4.out.step HO.out HS.out HBA4.out HRX.out ho7 hg7 hk7)
            clear ho7 hg7 hk7 hap hdo hxs HV4 HO HS HRX HN
            go_roundw
            case rel => exact ⟨j + 1, _, _, _, by go_num, rfl, by omega, HV7⟩
            case measure => simp [intOf]; omega
          · have d5 : (a.when_ == 5) = false := by simp [hw5]
            rw [if_neg hw5, List.append_nil] at HN
            have HV5 := Lib.hid (show IR 67 w1 c0 c1 (some ⟨b, o * 14, none⟩) y.abs A3 m3 c3 (statL s ((s.lists 8).take k) ++ statO id (y.abs.take (j + 1))) w4 from by rw [HN.out]; exact HV4.out)
            clear hw5 hrx hA4 HV4 HN ha
            go_wp2_with fail
            go_roundw
            case rel => exact ⟨j + 1, _, _, _, by go_num, rfl, by omega, HV5⟩
            case measure => simp [intOf]; omega
        · obtain rfl : j = ln := by omega
          have HV3 := Lib.hid (show ShI 67 w1 A3 m3 c3 (statL s ((s.lists 8).take (k + 1))) wr from by
            have h := HV.out.si
            rw [HLN.out, List.take_length, ← HId.out] at h
            exact h)
          clear HV HId
          go_wp2_with fail
          go_roundw
          case rel => exact ⟨k + 1, _, _, _, by go_num, rfl, by omega, HV3⟩
          case measure => simp [intOf]; omega
    · obtain rfl : k = q := by omega
      have HF := Lib.hid (show ShI 67 w1 A2 m2 c2 (statS s) wr from by
        have h := HV.out
        rw [List.take_of_length_le (by rw [HLn.out]; exact Nat.le_refl _)] at h
        exact h)
      clear HV
      go_wp2_with fail
      go_ret
      obtain ⟨xs, ho, _⟩ := HF.out.ex
      exact ⟨A2, m2, c2, rfl, ho.le, HF.out.base HBA.out⟩
end Go.Proofs.YtplfblccaeligaaDoor
namespace Go.Proofs.YtplfblccaeligaaDoor
open Go.RowKit Ex
set_option maxRecDepth 100000
/-- The same objects. -/
def sameOL : List (Nat → Int) → List (Nat → Int) → Bool
  | [], [] => true
  | a :: l, b :: r => sameI 18 a b && sameOL l r
  | _, _ => false
theorem sameOL_iff : ∀ {l r : List (Nat → Int)}, sameOL l r = true ↔ l.length = r.length ∧ ∀ k (h1 : k < l.length) (h2 : k < r.length), sameI 18 l[k] r[k] = true
  | [], [] => by simp [sameOL]
  | [], _ :: _ => by simp [sameOL]
  | _ :: _, [] => by simp [sameOL]
  | a :: l, b :: r => by
    simp only [sameOL, Bool.and_eq_true, List.length_cons, sameOL_iff (l := l) (r := r)]
    constructor
    · rintro ⟨h1, h2, h3⟩
      refine ⟨by omega, fun k hk1 hk2 => ?_⟩
      cases k with
      | zero => exact h1
      | succ k => exact h3 k (by omega) (by omega)
    · rintro ⟨h1, h2⟩
      exact ⟨h2 0 (by omega) (by omega), by omega, fun k hk1 hk2 => h2 (k + 1) (by omega) (by omega)⟩
theorem sameOL_refl (l : List (Nat → Int)) : sameOL l l = true := sameOL_iff.2 ⟨rfl, fun _ _ _ => sameI_refl _ _⟩
theorem sameOL_len {l r : List (Nat → Int)} (h : l.length ≠ r.length) : sameOL l r = false := by
  rw [Bool.eq_false_iff]; intro h2; exact h (sameOL_iff.1 h2).1
theorem sameOL_at {l r : List (Nat → Int)} {k : Nat} (h1 : k < l.length) (h2 : k < r.length) (h : sameI 18 l[k] r[k] = false) : sameOL l r = false := by
  rw [Bool.eq_false_iff]; intro h3; rw [(sameOL_iff.1 h3).2 k h1 h2] at h; cases h
def sameL (a b : StT) : Bool := (List.range 11).all fun z => decide (a.lists z = b.lists z)
theorem sameL_good {a b : StT} (h : ∀ z, z < 11 → a.lists z = b.lists z) : sameL a b = true := by
  unfold sameL; rw [List.all_eq_true]; intro z hz; simpa using h z (List.mem_range.1 hz)
theorem sameL_bad {a b : StT} {z : Nat} (hz : z < 11) (h : a.lists z ≠ b.lists z) : sameL a b = false := by
  rw [Bool.eq_false_iff]; intro h2
  unfold sameL at h2
  rw [List.all_eq_true] at h2
  exact h (by simpa using h2 z (List.mem_range.2 hz))
def sameS (a b : StT) : Bool := sameL a b && sameOL a.objs b.objs && sameI 18 a.pl b.pl && sameI 7 a.gm b.gm
theorem sameS_refl (a : StT) : sameS a a = true := by
  simp only [sameS, sameL_good (fun z _ => rfl), sameOL_refl, sameI_refl, Bool.and_true]
theorem range18' : List.range 18 = [0, 1, 2, 3, 4, 5, 6, 7, 8, 9, 10, 11, 12, 13, 14, 15, 16, 17] := rfl
theorem sameI_two (f g : Nat → Int) : sameI 18 f g = (sameI 9 (fun j => f (0 * 9 + j)) (fun j => g (0 * 9 + j)) && sameI 9 (fun j => f (1 * 9 + j)) (fun j => g (1 * 9 + j))) := by
  rw [Bool.eq_iff_iff, Bool.and_eq_true, sameI_iff, sameI_iff, sameI_iff]
  refine ⟨fun h => ⟨fun i hi => h _ (by omega), fun i hi => h _ (by omega)⟩, fun ⟨h1, h2⟩ i hi => ?_⟩
  by_cases e : i < 9
  · have := h1 i e; simpa using this
  · have := h2 (i - 9) (by omega)
    simpa [show 9 + (i - 9) = i by omega] using this
theorem part_two (f : Nat → Int) (w : World) : (part 25 (arr .i64 18 f) (0 * 9)).run Tryd.prog w = .ok (.agg (arr .i64 9 fun j => f (0 * 9 + j))) w ∧ (part 25 (arr .i64 18 f) (1 * 9)).run Tryd.prog w = .ok (.agg (arr .i64 9 fun j => f (1 * 9 + j))) w := ⟨by kernel_rfl, by kernel_rfl⟩
theorem size_nine (w : World) : (sizeOf 25).run Tryd.prog w = .ok 9 w := by kernel_rfl
theorem run_equalIn_two (w : World) (d : Nat) (f g : Nat → Int) : (Op.equalIn (d + 3) 26 (.agg (arr .i64 18 f)) (.agg (arr .i64 18 g))).run Tryd.prog w = .ok (sameI 18 f g) w := by
  rw [sameI_two, Op.equalIn]
  simp only [Sem.run_bind, run_underlying Tryd.underlying26, Result.andThen_ok, size_nine, Std.Legacy.Range.forIn_eq_forIn_range', Std.Legacy.Range.size, Nat.sub_zero, Nat.add_sub_cancel, Nat.div_one]
  rw [show List.range' 0 2 1 = [0, 1] from rfl]
  have e0 := run_equalIn_arr (P := Tryd.prog) w d 25 3 .i64 9 Tryd.underlying25 Tryd.underlying3 (fun _ => by kernel_rfl) (fun j => f (0 * 9 + j)) (fun j => g (0 * 9 + j))
  have e1 := run_equalIn_arr (P := Tryd.prog) w d 25 3 .i64 9 Tryd.underlying25 Tryd.underlying3 (fun _ => by kernel_rfl) (fun j => f (1 * 9 + j)) (fun j => g (1 * 9 + j))
  have pf0 := (part_two f w).1
  have pg0 := (part_two g w).1
  have pf1 : (part 25 (arr .i64 18 f) 9).run Tryd.prog w = _ := (part_two f w).2
  have pg1 : (part 25 (arr .i64 18 g) 9).run Tryd.prog w = _ := (part_two g w).2
  generalize (fun j => f (0 * 9 + j)) = f0 at *
  generalize (fun j => g (0 * 9 + j)) = g0 at *
  generalize (fun j => f (1 * 9 + j)) = f1 at *
  generalize (fun j => g (1 * 9 + j)) = g1 at *
  simp only [List.forIn_cons, Sem.run_bind, pf0, pg0, e0, Result.andThen_ok]
  cases h0 : sameI 9 f0 g0 <;> cases h1 : sameI 9 f1 g1 <;> simp [pf1, pg1, e1, h1]
theorem eql_two (f g : Nat → Int) (w : World) : (binOp .eql 26 (.agg (arr .i64 18 f)) (.agg (arr .i64 18 g))).run Tryd.prog w = .ok (.bool (sameI 18 f g)) w := by
  simp only [binOp]
  simp [Op.equal, Op.maxDepth, run_equalIn_two w 9997 f g]
theorem neq_two (f g : Nat → Int) (w : World) : (binOp .neq 26 (.agg (arr .i64 18 f)) (.agg (arr .i64 18 g))).run Tryd.prog w = .ok (.bool (!sameI 18 f g)) w := by
  simp only [binOp]
  simp [Op.equal, Op.maxDepth, run_equalIn_two w 9997 f g]
theorem eql_seven (f g : Nat → Int) (w : World) : (binOp .eql 27 (.agg (arr .i64 7 f)) (.agg (arr .i64 7 g))).run Tryd.prog w = .ok (.bool (sameI 7 f g)) w :=
  run_eql_arr w 27 3 .i64 7 Tryd.underlying27 Tryd.underlying3 (fun _ => by kernel_rfl) f g
theorem neq_seven (f g : Nat → Int) (w : World) : (binOp .neq 27 (.agg (arr .i64 7 f)) (.agg (arr .i64 7 g))).run Tryd.prog w = .ok (.bool (!sameI 7 f g)) w :=
  run_neq_arr w 27 3 .i64 7 Tryd.underlying27 Tryd.underlying3 (fun _ => by kernel_rfl) f g
theorem neq_obj (f g : Nat → Int) (w : World) : (binOp .neq 37 (.agg (arr .i64 18 f)) (.agg (arr .i64 18 g))).run Tryd.prog w = .ok (.bool (!sameI 18 f g)) w :=
  run_neq_arr w 37 3 .i64 18 Tryd.underlying37 Tryd.underlying3 (fun _ => by kernel_rfl) f g
end Go.Proofs.YtplfblccaeligaaDoor
namespace Go.Proofs.YtplfblccaeligaaDoor
open Go.RowKit Ex
attribute [local go_sem] arr_get
set_option maxRecDepth 100000
theorem yields_obj {ops : Array Oper} {S : World → Prop} {op : Oper} {a : Act} (hw : Region.wanted op (yielded ops a.tmps) = true) (x : Operand) (ho : op.op = .load 37 x)
    (b o : Nat) (hx : a.eval x = .pointer (some ⟨b, o, none⟩)) (f : Nat → Int) (hS : ∀ w, S w → w.rangeAt b o (arr .i64 18 f).toList) : YieldsIf Tryd.prog ops S op (.agg (arr .i64 18 f)) a := by
  have h := yieldsIf_load_mid (P := Tryd.prog) (S := S) hw 37 x ho b o hx (arr .i64 18 f).toList _ hS Tryd.underlying37 rfl (by rw [Array.length_toList, arr_size]; exact st_size18)
  rw [Array.toArray_toList] at h
  exact h
theorem load_twoW {ops : Array Oper} {rest : List Oper} {op : Oper} {a : Act} {w : World} {Q : Exit → Act → World → Prop} (hw : Region.wanted op (yielded ops a.tmps) = true) (x : Operand) (ho : op.op = .load 26 x)
    (b o : Nat) (hx : a.eval x = .pointer (some ⟨b, o, none⟩)) (f : Nat → Int) (h : w.rangeAt b o (arr .i64 18 f).toList)
    (hK : wpList Tryd.prog ops Q rest (a.put op.dst (.agg (arr .i64 18 f))) w) : wpList Tryd.prog ops Q (op :: rest) a w := by
  refine BigFrame.wpList_want hw fun _ hK' => wp_load_mid 26 x ho b o hx (arr .i64 18 f).toList _ h Tryd.underlying26 rfl (by rw [Array.length_toList, arr_size]; exact size18p) (hK' _ _ ?_)
  rw [Array.toArray_toList]
  exact hK
theorem load_sevenW {ops : Array Oper} {rest : List Oper} {op : Oper} {a : Act} {w : World} {Q : Exit → Act → World → Prop} (hw : Region.wanted op (yielded ops a.tmps) = true) (x : Operand) (ho : op.op = .load 27 x)
    (b o : Nat) (hx : a.eval x = .pointer (some ⟨b, o, none⟩)) (f : Nat → Int) (h : w.rangeAt b o (arr .i64 7 f).toList)
    (hK : wpList Tryd.prog ops Q rest (a.put op.dst (.agg (arr .i64 7 f))) w) : wpList Tryd.prog ops Q (op :: rest) a w := by
  refine BigFrame.wpList_want hw fun _ hK' => wp_load_mid 27 x ho b o hx (arr .i64 7 f).toList _ h Tryd.underlying27 rfl (by rw [Array.length_toList, arr_size]; exact st_size7) (hK' _ _ ?_)
  rw [Array.toArray_toList]
  exact hK
/-- Two boxes with states. -/
structure TwoS (w : World) (ga gb : Nat) (ca cb : Array Value) (W : World) : Prop where
  b : Below w.heap.size w W
  sa : StAt W ga ca
  sb : StAt W gb cb
theorem TwoS.keep {w : World} {ga gb : Nat} {ca cb : Array Value} {W W' : World} (h : TwoS w ga gb ca cb W) (hb : Below W.heap.size W W') : TwoS w ga gb ca cb W' := ⟨keepB hb h.b, h.sa.keep hb, h.sb.keep hb⟩
theorem TwoS.drewN {w : World} {ga gb : Nat} {ca cb : Array Value} {W : World} (h : TwoS w ga gb ca cb W) (m : Nat) : TwoS w ga gb ca cb (W.drewN m) := ⟨below_drewN h.b m, h.sa, h.sb⟩
end Go.Proofs.YtplfblccaeligaaDoor
