/- Layer 15: the document's Change: the event by which players know an object, or don't. -/
import Derived.Test.YtmhabodijmnldaaKwRef2
import Derived.Test.YtmhabodijmnldaaNtEvP
namespace Go.Proofs.Ytmhabodijmnldaa
open Go.RowKit Ex
set_option maxRecDepth 100000
def chgU (x ps : Int) (is : Bool) : Nat → Int
  | 0 => x
  | k + 1 => chg1 (chgU x ps is k) ps is k
theorem chgU_two (x ps : Int) (is : Bool) : chgU x ps is 2 = chgK x ps is := rfl
theorem chgU_64 {x ps : Int} {is : Bool} (hx : N64 x) {k : Nat} (hk : k ≤ 2) : N64 (chgU x ps is k) := by
  match k, hk with
  | 0, _ => exact hx
  | 1, _ => exact chg1_64 hx (.inl rfl)
  | 2, _ => exact chg_64 hx
theorem show_out {os : List (Nat → Int)} {id ps : Int} {is : Bool} (h : id < 0 ∨ (os.length : Int) ≤ id) : showE os id ps is = [] := if_pos h
theorem show_in {os : List (Nat → Int)} {k : Nat} {ps : Int} {is : Bool} {o : Nat → Int} (h : os[k]? = some o) : showE os (k : Int) ps is = if chgK (o 17) ps is = o 17 then [] else [⟨2, k, 17, o 17, chgK (o 17) ps is, 0⟩] := by
  have hk := (List.getElem?_eq_some_iff.1 h).1
  unfold showE
  rw [if_neg (by omega), Int.toNat_natCast, List.getD_eq_getElem?_getD, h]; rfl
set_option linter.unusedSimpArgs false in
set_option maxHeartbeats 0 in
theorem changeRef_any (s : StT) (O : SlT) (L : Nat → SlT) (cs : Array Value) (id ps : Int) (is : Bool) (w : World) (h : ReadsS w.heap.size w cs s O L) (hn : s.objs.length ≤ 100000) (_hid : N64 id) :
    Calls Try.prog 15 #[.agg cs, .int .i64 id, .int .i64 ps, .bool is] w (EvsP w (showE s.objs id ps is)) := by
  have H := Lib.hid h
  have hcs := h.cs
  have c0 : cs[0]? = some (.slice O.A O.n O.c) := by rw [hcs]; exact stC_objs _ _ _ _
  have hOn := h.on
  obtain ⟨A, n, c⟩ := O
  simp only at c0 hOn
  subst hOn
  have HC := Lib.hid hcs
  have HN := Lib.hid hn
  clear h hcs hn
  have hs0 : StAt (w.alloc (.cells cs 29)) w.heap.size cs := StAt.new _ _
  have hb0 : Below w.heap.size w (w.alloc (.cells cs 29)) := (Below.refl _ _).alloc (Nat.le_refl _) _
  obtain ⟨r, hr⟩ : ∃ r, r = showE s.objs id ps is := ⟨_, rfl⟩
  rw [← hr]
  have HR := Lib.hid hr
  clear hr
  go_enter Try.func15, Try.ntmps15
  go_upto_region 1 with fail
  obtain ⟨g, hg⟩ : ∃ g, g = w.heap.size := ⟨_, rfl⟩
  obtain ⟨w1, hw1⟩ : ∃ W, W = w.alloc (.cells cs 29) := ⟨_, rfl⟩
  rw [← hw1] at hs0 hb0 ⊢
  rw [← hg] at hs0 ⊢
  have cg : w1.cell? ⟨g, 0, none⟩ = some (.slice A s.objs.length c) := by rw [hs0.cell]; exact c0
  have HB := Lib.hid hb0
  clear hw1 hg c0 hs0 hb0
  by_cases hneg : id < 0
  · have d0 : decide (id < 0) = true := decide_eq_true hneg
    have HF := Lib.hid (show r = [] from HR.out.trans (show_out (.inl hneg)))
    clear hneg
    go_wp2_with fail
    go_ret
    exact ⟨none, 0, 0, rfl, Nat.le_refl _, by rw [HF.out]; exact Evs.nil, HB.out⟩
  have d0 : decide (id < 0) = false := decide_eq_false hneg
  obtain ⟨k, rfl⟩ : ∃ k : Nat, id = (k : Int) := ⟨id.toNat, by omega⟩
  by_cases hout : (s.objs.length : Int) ≤ (k : Int)
  · have d1 : decide ((s.objs.length : Int) ≤ (k : Int)) = true := decide_eq_true hout
    have d2 : decide (s.objs.length ≤ k) = true := decide_eq_true (by omega)
    have HF := Lib.hid (show r = [] from HR.out.trans (show_out (.inr hout)))
    clear hneg hout
    go_wp2_with fail
    go_ret
    exact ⟨none, 0, 0, rfl, Nat.le_refl _, by rw [HF.out]; exact Evs.nil, HB.out⟩
  have d1 : decide ((s.objs.length : Int) ≤ (k : Int)) = false := decide_eq_false hout
  have d2 : decide (s.objs.length ≤ k) = false := decide_eq_false (by omega)
  obtain ⟨o, ho⟩ : ∃ o, s.objs[k]? = some o := ⟨_, List.getElem?_eq_getElem (by omega)⟩
  obtain ⟨b, off, ea, hbl, hra⟩ := H.out.o k o ho
  simp only at ea
  subst ea
  have hra := range_below HB.out hbl hra
  have hc17 := hra 17 (.int .i64 (o 17)) (by rw [Array.getElem?_toList, arr_get .i64 18 o (by omega)])
  have hx := H.out.ow o (List.mem_of_getElem? ho) 17 (by omega)
  obtain ⟨x, hxe⟩ : ∃ x, x = o 17 := ⟨_, rfl⟩
  rw [← hxe] at hc17 hx
  have HX := Lib.hid hx
  have HIn := Lib.hid (show r = if chgK x ps is = x then [] else [⟨2, k, 17, x, chgK x ps is, 0⟩] from by rw [HR.out, show_in ho, hxe])
  have g0 : (0 : Int) ≤ (k : Int) := by omega
  have g1 : (k : Int) < (s.objs.length : Int) := by omega
  have HK := Lib.hid (show N64 (k : Int) from by have := HN.out; exact ⟨by omega, by omega⟩)
  clear hra ho hxe hx hbl hneg hout HR
  go_upto_region 6 with fail
  have HB0 := Lib.hid HB.out
  go_loopw [10, 11] (fun y p wr => ∃ j : Nat, y = .int .i64 (chgU x ps is j) ∧ p = .int .i64 ((j : Nat) : Int) ∧ j ≤ 2 ∧ Hid (Below w.heap.size w wr)) (fun _ p _ => 2 - (intOf p).toNat)
  case atStart => exact ⟨0, rfl, rfl, by omega, HB0⟩
  case round =>
    clear HB0
    obtain ⟨j, rfl, rfl, hj, HBj⟩ := hrel
    obtain ⟨y, hy⟩ : ∃ y, y = chgU x ps is j := ⟨_, rfl⟩
    rw [← hy]
    by_cases hlt : j < 2
    · have dj : decide ((j : Int) < 2) = true := by simp; omega
      have HNx := Lib.hid (show chgU x ps is (j + 1) = chg1 y ps is j by rw [hy]; rfl)
      have hy64 := chgU_64 (ps := ps) (is := is) HX.out (show j + 1 ≤ 2 by omega)
      rw [HNx.out] at hy64
      obtain ⟨bp, hbp⟩ : ∃ q, q = bitK ps j := ⟨_, rfl⟩
      obtain ⟨by_, hby⟩ : ∃ q, q = bitK y j := ⟨_, rfl⟩
      have hB1 := bitRef_any ps j
      have hB2 := bitRef_any y j
      rw [← hbp] at hB1
      rw [← hby] at hB2
      have HB1 := Lib.hid hB1
      have HB2 := Lib.hid hB2
      have HC1 := Lib.hid (show chg1 y ps is j = if bp = true ∧ by_ ≠ is then (if is = true then y + ((j : Int) + 1) else y - ((j : Int) + 1)) else y from by unfold chg1; rw [← hbp, ← hby])
      have HY64 := Lib.hid hy64
      clear hbp hby hB1 hB2 hy hy64
      go_wp2_with fail
      refine (HB1.out wr).mono ?_
      rintro en w4 ⟨rfl, hb4⟩
      have hb4 := keepB hb4 HBj.out
      cases bp with
      | false =>
        have HF := Lib.hid (show chgU x ps is (j + 1) = y from by rw [HNx.out, HC1.out, if_neg (by simp)])
        have HB4 := Lib.hid hb4
        clear hb4
        go_wp2_with fail
        go_roundw
        case rel => exact ⟨j + 1, by rw [HF.out], by go_num, by omega, HB4⟩
        case measure => simp [intOf]; omega
      | true =>
        go_wp2_with fail
        refine (HB2.out w4).mono ?_
        rintro en w5 ⟨rfl, hb5⟩
        have HB5 := Lib.hid (keepB hb5 hb4)
        clear hb4 hb5
        by_cases hne : by_ = is
        · subst hne
          have HF := Lib.hid (show chgU x ps by_ (j + 1) = y from by rw [HNx.out, HC1.out, if_neg (by simp)])
          go_wp2_with fail
          go_roundw
          case rel => exact ⟨j + 1, by rw [HF.out], by go_num, by omega, HB5⟩
          case measure => simp [intOf]; omega
        · cases is with
          | true =>
            obtain rfl : by_ = false := by simpa using hne
            have HF := Lib.hid (show chgU x ps true (j + 1) = y + ((j : Int) + 1) from by rw [HNx.out, HC1.out, if_pos ⟨by simp, by simp⟩, if_pos rfl])
            have hw64 : IntKind.i64.wrap (y + ((j : Int) + 1)) = y + ((j : Int) + 1) := by
              have h := HY64.out
              rw [← HNx.out, HF.out] at h
              exact i64_in h.1 h.2
            clear hne
            go_wp2_with fail
            go_roundw
            case rel => exact ⟨j + 1, by rw [HF.out], by go_num, by omega, HB5⟩
            case measure => simp [intOf]; omega
          | false =>
            obtain rfl : by_ = true := by simpa using hne
            have HF := Lib.hid (show chgU x ps false (j + 1) = y - ((j : Int) + 1) from by rw [HNx.out, HC1.out, if_pos ⟨by simp, by simp⟩, if_neg (by simp)])
            have hw64 : IntKind.i64.wrap (y - ((j : Int) + 1)) = y - ((j : Int) + 1) := by
              have h := HY64.out
              rw [← HNx.out, HF.out] at h
              exact i64_in h.1 h.2
            clear hne
            go_wp2_with fail
            go_roundw
            case rel => exact ⟨j + 1, by rw [HF.out], by go_num, by omega, HB5⟩
            case measure => simp [intOf]; omega
    · obtain rfl : j = 2 := by omega
      have HY := Lib.hid (show y = chgK x ps is from hy)
      have dj : decide (((2 : Nat) : Int) < 2) = false := by simp
      have hY64 := chg_64 (ps := ps) (is := is) HX.out
      rw [← HY.out] at hY64
      have HY64 := Lib.hid hY64
      rw [← HY.out] at HIn
      clear hy hY64
      by_cases he : y = x
      · have dx : (y == x) = true := by simp [he]
        have HF := Lib.hid (show r = [] from by rw [HIn.out, if_pos he])
        clear he
        go_wp2_with fail
        go_ret
        exact ⟨none, 0, 0, rfl, Nat.le_refl _, by rw [HF.out]; exact Evs.nil, HBj.out⟩
      · have dx : (y == x) = false := by simp [he]
        have HF := Lib.hid (show r = [⟨2, k, 17, x, y, 0⟩] from by rw [HIn.out, if_neg he])
        have hbE : Below wr.heap.size wr (wr.alloc (.cells (evC ⟨2, k, 17, x, y, 0⟩) 44)) := (Below.refl _ _).alloc (Nat.le_refl _) _
        have hE : EvB (wr.alloc (.cells (evC ⟨2, k, 17, x, y, 0⟩) 44)) wr.heap.size ⟨2, k, 17, x, y, 0⟩ := heap_alloc_new _ _
        have HRes := Lib.hid (show Evs (wr.alloc (.cells (evC ⟨2, k, 17, x, y, 0⟩) 44)).heap.size (wr.alloc (.cells (evC ⟨2, k, 17, x, y, 0⟩) 44)) (some ⟨wr.heap.size, 0, none⟩) 1 r ∧ Below w.heap.size w (wr.alloc (.cells (evC ⟨2, k, 17, x, y, 0⟩) 44)) from
          ⟨by rw [HF.out]; exact ⟨rfl, rdV_one hE, fun e he => by
            obtain rfl : e = ⟨2, k, 17, x, y, 0⟩ := by simpa using he
            exact ⟨by show N64 2; unfold N64; omega, HK.out, by show N64 17; unfold N64; omega, HX.out, HY64.out, by show N64 0; unfold N64; omega⟩⟩, keepB hbE HBj.out⟩)
        clear he hbE hE
        go_wp2_with (refine wpList_buildSliceEv rfl (.tmp 57) rfl ⟨2, k, 17, x, y, 0⟩ rfl ?_)
        go_ret
        exact ⟨_, 1, 1, rfl, Nat.le_refl _, HRes.out.1, HRes.out.2⟩
end Go.Proofs.Ytmhabodijmnldaa
