/- Layer 10: mulligannum's States. -/
import Derived.Test.YtmneajmedopheaaNtG2
import Derived.Test.YtmneajmedopheaaNum
namespace Go.Proofs.Ytmneajmedopheaa
open Go.RowKit Ex
attribute [local go_sem] arr_get
set_option maxRecDepth 100000
theorem intsB (A1 A2 : Option Addr) (n1 c1 n2 c2 : Nat) (l1 l2 : List Int) (w : World) (B1 B2 : Nat) (h1 : Nums .i64 w B1 A1 n1 l1) (h2 : Nums .i64 w B2 A2 n2 l2) (hn1 : n1 ≤ 1000000000) (hn2 : n2 ≤ 1000000000) :
    Calls Try.prog 20 #[.slice A1 n1 c1, .slice A2 n2 c2] w fun e w' => e = .returned (.bool (decide (l1 = l2))) ∧ Below w.heap.size w w' :=
  (ints_any A1 A2 n1 c1 n2 c2 l1 l2 w B1 B2 h1 h2 hn1 hn2).mono fun _ _ ⟨h, m, hw⟩ => ⟨h, hw ▸ below_drewN (Below.refl _ _) m⟩
set_option linter.unusedSimpArgs false in
set_option maxHeartbeats 0 in
theorem states_any (a b : StT) (Oa Ob : SlT) (La Lb : Nat → SlT) (ca cb : Array Value) (w : World) (hA : ReadsS w.heap.size w ca a Oa La) (hB : ReadsS w.heap.size w cb b Ob Lb)
    (na : a.objs.length ≤ 1000000) (_nb : b.objs.length ≤ 1000000) (la : ∀ z < 11, (a.lists z).length ≤ 1000000) (lb : ∀ z < 11, (b.lists z).length ≤ 1000000) :
    Calls Try.prog 9 #[.agg ca, .agg cb] w fun e w' => e = .returned (.bool (sameS a b)) ∧ Below w.heap.size w w' := by
  obtain ⟨q, hq⟩ : ∃ q, q = sameS a b := ⟨_, rfl⟩
  rw [← hq]
  have HQ := Lib.hid hq
  clear hq
  go_enter Try.func9, Try.ntmps9
  have HA := Lib.hid hA
  have HB := Lib.hid hB
  clear hA hB
  have ca0 : ca[0]? = some (.slice Oa.A a.objs.length Oa.c) := by rw [HA.out.cs, stC_objs, ← HA.out.on]; rfl
  have cb0 : cb[0]? = some (.slice Ob.A b.objs.length Ob.c) := by rw [HB.out.cs, stC_objs, ← HB.out.on]; rfl
  go_upto_region 1 with fail
  have HT := Lib.hid (show TwoS w w.heap.size (w.heap.size + 1) ca cb ((w.alloc (.cells ca 29)).alloc (.cells cb 29)) from by
    have h1 : Below (w.alloc (.cells ca 29)).heap.size (w.alloc (.cells ca 29)) ((w.alloc (.cells ca 29)).alloc (.cells cb 29)) := (Below.refl _ _).alloc (Nat.le_refl _) _
    have h0 : Below w.heap.size w (w.alloc (.cells ca 29)) := (Below.refl _ _).alloc (Nat.le_refl _) _
    refine ⟨keepB h1 h0, (StAt.new w ca).keep h1, ?_⟩
    have h := StAt.new (w.alloc (.cells ca 29)) cb
    simpa using h)
  obtain ⟨w1, hw1⟩ : ∃ w1, w1 = (w.alloc (.cells ca 29)).alloc (.cells cb 29) := ⟨_, rfl⟩
  obtain ⟨gb, hgb⟩ : ∃ gb, gb = w.heap.size + 1 := ⟨_, rfl⟩
  rw [← hw1, ← hgb] at HT
  rw [← hw1, ← hgb]
  clear hw1 hgb
  have c1 := (HT.out.sa.cell 0).trans ca0
  have c2 := (HT.out.sb.cell 0).trans cb0
  have hbw := HT.out.b
  by_cases hln : a.objs.length = b.objs.length
  case neg =>
    have dl : ((a.objs.length : Int) != (b.objs.length : Int)) = true := by rw [bne_iff_ne]; omega
    have hf : sameS a b = false := by simp only [sameS, sameOL_len hln, Bool.false_and, Bool.and_false]
    clear hln
    obtain rfl := HQ.out.trans hf
    clear hf
    go_wp2_with fail
    go_ret
    exact ⟨rfl, hbw⟩
  have dl : ((a.objs.length : Int) != (b.objs.length : Int)) = false := by rw [bne_eq_false_iff_eq]; omega
  have HLn := Lib.hid hln
  clear hln
  have hra := HT.out.sa
  rw [HA.out.cs] at hra
  have hrb := HT.out.sb
  rw [HB.out.cs] at hrb
  have p1 := hra.two
  have p2 := hrb.two
  have g1 := hra.gm
  have g2 := hrb.gm
  have e1 := neq_two a.pl b.pl
  have e2 := neq_seven a.gm b.gm
  obtain ⟨u, hu⟩ : ∃ u, u = sameI 18 a.pl b.pl := ⟨_, rfl⟩
  obtain ⟨v, hv⟩ : ∃ v, v = sameI 7 a.gm b.gm := ⟨_, rfl⟩
  rw [← hu] at e1
  rw [← hv] at e2
  have hf0 : sameS a b = (sameL a b && sameOL a.objs b.objs && u && v) := by simp only [sameS, hu, hv]
  have HF := Lib.hid hf0
  clear hra hrb hu hv hf0
  by_cases hut : u = true
  case neg =>
    obtain rfl : u = false := by simpa using hut
    have hf : sameS a b = false := by rw [HF.out, Bool.and_false, Bool.false_and]
    clear hut
    obtain rfl := HQ.out.trans hf
    clear hf
    go_wp2_with (first
      | (refine load_twoW (by rfl) (.tmp 15) rfl w.heap.size 12 rfl a.pl p1 ?_)
      | (refine load_twoW (by rfl) (.tmp 17) rfl gb 12 rfl b.pl p2 ?_))
    go_ret
    exact ⟨rfl, hbw⟩
  subst hut
  by_cases hvt : v = true
  case neg =>
    obtain rfl : v = false := by simpa using hvt
    have hf : sameS a b = false := by rw [HF.out, Bool.and_false]
    clear hvt
    obtain rfl := HQ.out.trans hf
    clear hf
    go_wp2_with (first
      | (refine load_twoW (by rfl) (.tmp 15) rfl w.heap.size 12 rfl a.pl p1 ?_)
      | (refine load_twoW (by rfl) (.tmp 17) rfl gb 12 rfl b.pl p2 ?_)
      | (refine load_sevenW (by rfl) (.tmp 22) rfl w.heap.size 30 rfl a.gm g1 ?_)
      | (refine load_sevenW (by rfl) (.tmp 24) rfl gb 30 rfl b.gm g2 ?_))
    go_ret
    exact ⟨rfl, hbw⟩
  subst hvt
  go_upto_region 4 with (first
    | (refine load_twoW (by rfl) (.tmp 15) rfl w.heap.size 12 rfl a.pl p1 ?_)
    | (refine load_twoW (by rfl) (.tmp 17) rfl gb 12 rfl b.pl p2 ?_)
    | (refine load_sevenW (by rfl) (.tmp 22) rfl w.heap.size 30 rfl a.gm g1 ?_)
    | (refine load_sevenW (by rfl) (.tmp 24) rfl gb 30 rfl b.gm g2 ?_))
  clear p1 p2 g1 g2 e1 e2 c1 c2 hbw dl
  have HO0 := Lib.hid (show ∀ j (h1 : j < a.objs.length) (h2 : j < b.objs.length), j < 0 → sameI 18 a.objs[j] b.objs[j] = true from fun j _ _ h => absurd h (by omega))
  go_loopw [31] (fun i wr => ∃ k : Nat, i = .int .i64 ((k : Nat) : Int) ∧ k ≤ a.objs.length ∧ Hid (∀ j (h1 : j < a.objs.length) (h2 : j < b.objs.length), j < k → sameI 18 a.objs[j] b.objs[j] = true) ∧ Hid (TwoS w w.heap.size gb ca cb wr)) (fun i _ => a.objs.length - (intOf i).toNat)
  case atStart => exact ⟨0, rfl, by omega, HO0, HT⟩
  case round =>
    clear HT HO0
    obtain ⟨k, rfl, hk, HO, HT⟩ := hrel
    by_cases hlt : k < a.objs.length
    · have hlt2 : k < b.objs.length := by have := HLn.out; omega
      obtain ⟨b1, o1, ea, hb1, g1⟩ := HA.out.o.at_ hlt
      obtain ⟨b2, o2, eb, hb2, g2⟩ := HB.out.o.at_ hlt2
      have k1 : ∀ W, Below wr.heap.size wr W → W.cell? ⟨w.heap.size, 0, none⟩ = some (.slice (some ⟨b1, o1, none⟩) a.objs.length Oa.c) := fun W hW => by rw [(HT.out.sa.keep hW).cell, ca0, ea]
      have k2 : ∀ W, Below wr.heap.size wr W → W.cell? ⟨gb, 0, none⟩ = some (.slice (some ⟨b2, o2, none⟩) b.objs.length Ob.c) := fun W hW => by rw [(HT.out.sb.keep hW).cell, cb0, eb]
      replace g1 := range_below HT.out.b (by omega) g1
      replace g2 := range_below HT.out.b (by omega) g2
      have hb1' : b1 < wr.heap.size := by have := HT.out.b.size; omega
      have hb2' : b2 < wr.heap.size := by have := HT.out.b.size; omega
      obtain ⟨x, hx⟩ : ∃ x, x = a.objs[k] := ⟨_, rfl⟩
      obtain ⟨y, hy⟩ : ∃ y, y = b.objs[k] := ⟨_, rfl⟩
      rw [← hx] at g1
      rw [← hy] at g2
      have p0 : (0 : Int) ≤ (k : Int) := by omega
      have p1 : (k : Int) < (a.objs.length : Int) := by omega
      have p2 : (k : Int) < (b.objs.length : Int) := by omega
      have hneq := neq_obj x y
      obtain ⟨r, hr⟩ : ∃ r, r = sameI 18 x y := ⟨_, rfl⟩
      rw [← hr] at hneq
      have HR := Lib.hid (show r = sameI 18 a.objs[k] b.objs[k] by rw [hr, hx, hy])
      have G1 := Lib.hid g1
      have G2 := Lib.hid g2
      clear hx hy hr g1 g2 ea eb hb1 hb2
      go_upto_region 6 with fail
      refine region_below (by kernel_rfl) (fun hHeld => ?_)
      refine wpAnyH_take (i := 0) (v := ?_) rfl (by kernel_rfl) (by kernel_rfl) (by kernel_rfl) (fun _ _ _ h => h) (Or.inl ⟨by rfl, ?_⟩) hHeld ?_
      rotate_left
      · (intro w hSw; go_simp; (try with_reducible rfl))
      simp only [Act.put, List.getElem_toArray, List.getElem_cons_zero, List.getElem_cons_succ, List.setIfInBounds_toArray, List.set_cons_zero, List.set_cons_succ]
      refine wpAnyH_take (i := 1) (v := ?_) rfl (by kernel_rfl) (by kernel_rfl) (by kernel_rfl) (fun _ _ _ h => h) (Or.inl ⟨by rfl, ?_⟩) hHeld ?_
      rotate_left
      · (intro w hSw; go_simp; (try with_reducible rfl))
      simp only [Act.put, List.getElem_toArray, List.getElem_cons_zero, List.getElem_cons_succ, List.setIfInBounds_toArray, List.set_cons_zero, List.set_cons_succ]
      refine wpAnyH_take (i := 2) (v := ?_) rfl (by kernel_rfl) (by kernel_rfl) (by kernel_rfl) (fun _ _ _ h => h) (Or.inl ⟨by rfl, ?_⟩) hHeld ?_
      rotate_left
      · (intro w hSw; go_simp; (try with_reducible rfl))
      simp only [Act.put, List.getElem_toArray, List.getElem_cons_zero, List.getElem_cons_succ, List.setIfInBounds_toArray, List.set_cons_zero, List.set_cons_succ]
      refine wpAnyH_take (i := 3) (v := ?_) rfl (by kernel_rfl) (by kernel_rfl) (by kernel_rfl) (fun _ _ _ h => h) (Or.inl ⟨by rfl, ?_⟩) hHeld ?_
      rotate_left
      · (intro w hSw; go_simp; (try with_reducible rfl))
      simp only [Act.put, List.getElem_toArray, List.getElem_cons_zero, List.getElem_cons_succ, List.setIfInBounds_toArray, List.set_cons_zero, List.set_cons_succ]
      refine wpAnyH_take (i := 4) (v := .agg (arr .i64 18 x)) rfl (by kernel_rfl) (by kernel_rfl) (by kernel_rfl) (fun _ _ _ h => h) (yields_obj (by rfl) (.tmp 37) rfl b1 (o1 + k * 18) rfl x (fun W hW => range_below hW hb1' (G1).out)) hHeld ?_
      simp only [Act.put, List.getElem_toArray, List.getElem_cons_zero, List.getElem_cons_succ, List.setIfInBounds_toArray, List.set_cons_zero, List.set_cons_succ]
      refine wpAnyH_take (i := 5) (v := ?_) rfl (by kernel_rfl) (by kernel_rfl) (by kernel_rfl) (fun _ _ _ h => h) (Or.inl ⟨by rfl, ?_⟩) hHeld ?_
      rotate_left
      · (intro w hSw; go_simp; (try with_reducible rfl))
      simp only [Act.put, List.getElem_toArray, List.getElem_cons_zero, List.getElem_cons_succ, List.setIfInBounds_toArray, List.set_cons_zero, List.set_cons_succ]
      refine wpAnyH_take (i := 6) (v := ?_) rfl (by kernel_rfl) (by kernel_rfl) (by kernel_rfl) (fun _ _ _ h => h) (Or.inl ⟨by rfl, ?_⟩) hHeld ?_
      rotate_left
      · (intro w hSw; go_simp; (try with_reducible rfl))
      simp only [Act.put, List.getElem_toArray, List.getElem_cons_zero, List.getElem_cons_succ, List.setIfInBounds_toArray, List.set_cons_zero, List.set_cons_succ]
      refine wpAnyH_take (i := 7) (v := ?_) rfl (by kernel_rfl) (by kernel_rfl) (by kernel_rfl) (fun _ _ _ h => h) (Or.inl ⟨by rfl, ?_⟩) hHeld ?_
      rotate_left
      · (intro w hSw; go_simp; (try with_reducible rfl))
      simp only [Act.put, List.getElem_toArray, List.getElem_cons_zero, List.getElem_cons_succ, List.setIfInBounds_toArray, List.set_cons_zero, List.set_cons_succ]
      refine wpAnyH_take (i := 8) (v := ?_) rfl (by kernel_rfl) (by kernel_rfl) (by kernel_rfl) (fun _ _ _ h => h) (Or.inl ⟨by rfl, ?_⟩) hHeld ?_
      rotate_left
      · (intro w hSw; go_simp; (try with_reducible rfl))
      simp only [Act.put, List.getElem_toArray, List.getElem_cons_zero, List.getElem_cons_succ, List.setIfInBounds_toArray, List.set_cons_zero, List.set_cons_succ]
      refine wpAnyH_take (i := 9) (v := .agg (arr .i64 18 y)) rfl (by kernel_rfl) (by kernel_rfl) (by kernel_rfl) (fun _ _ _ h => h) (yields_obj (by rfl) (.tmp 42) rfl b2 (o2 + k * 18) rfl y (fun W hW => range_below hW hb2' (G2).out)) hHeld ?_
      simp only [Act.put, List.getElem_toArray, List.getElem_cons_zero, List.getElem_cons_succ, List.setIfInBounds_toArray, List.set_cons_zero, List.set_cons_succ]
      refine wpAnyH_take (i := 10) (v := ?_) rfl (by kernel_rfl) (by kernel_rfl) (by kernel_rfl) (fun _ _ _ h => h) (Or.inl ⟨by rfl, ?_⟩) hHeld ?_
      rotate_left
      · (intro w hSw; go_simp; (try with_reducible rfl))
      simp only [Act.put, List.getElem_toArray, List.getElem_cons_zero, List.getElem_cons_succ, List.setIfInBounds_toArray, List.set_cons_zero, List.set_cons_succ]
      refine wpAnyH_done (by kernel_rfl) ?_ _
      clear hneq k1 k2
      have HT2 := Lib.hid (HT.out.keep hHeld)
      have hbw := HT2.out.b
      by_cases hrt : r = true
      · subst hrt
        have HO2 := Lib.hid (show ∀ j (h1 : j < a.objs.length) (h2 : j < b.objs.length), j < k + 1 → sameI 18 a.objs[j] b.objs[j] = true from fun j h1 h2 hj => by
          by_cases e : j = k
          · subst e; exact HR.out.symm
          · exact HO.out j h1 h2 (by omega))
        clear hHeld
        go_wp2_with fail
        go_roundw
        case rel => exact ⟨k + 1, by go_num, by omega, HO2, HT2⟩
        case measure => simp [intOf]; omega
      · obtain rfl : r = false := by simpa using hrt
        have hf : sameS a b = false := by rw [HF.out, sameOL_at hlt hlt2 HR.out.symm]; simp
        obtain rfl := HQ.out.trans hf
        clear hf
        go_wp2_with fail
        go_ret
        exact ⟨rfl, hbw⟩
    · have hso : sameOL a.objs b.objs = true := sameOL_iff.2 ⟨HLn.out, fun j h1 h2 => HO.out j h1 h2 (by omega)⟩
      replace HF := Lib.hid (show sameS a b = sameL a b by rw [HF.out, hso]; simp)
      obtain rfl : k = a.objs.length := by omega
      clear hso HO
      go_upto_region 10 with fail
      have HL0 := Lib.hid (show ∀ y, y < 0 → a.lists y = b.lists y from fun y hy => absurd hy (by omega))
      go_loopw [46] (fun i wr => ∃ z : Nat, i = .int .i64 ((z : Nat) : Int) ∧ z ≤ 11 ∧ Hid (∀ y, y < z → a.lists y = b.lists y) ∧ Hid (TwoS w w.heap.size gb ca cb wr)) (fun i _ => 11 - (intOf i).toNat)
      case atStart => exact ⟨0, rfl, by omega, HL0, HT⟩
      case round =>
        clear HT HL0
        obtain ⟨z, rfl, hz, HL, HT⟩ := hrel
        by_cases hlt : z < 11
        · have hd : decide ((z : Int) < 11) = true := by simp; omega
          have p0 : (0 : Int) ≤ (z : Int) := by omega
          have p1 : (z : Int) < 11 := by omega
          obtain ⟨A1, n1, c1, hc1, _, hN1⟩ := HA.out.at_list hlt
          obtain ⟨A2, n2, c2, hc2, _, hN2⟩ := HB.out.at_list hlt
          have k1 : ∀ W, Below wr.heap.size wr W → W.cell? ⟨w.heap.size, 1 + z, none⟩ = some (.slice A1 n1 c1) := fun W hW => by rw [(HT.out.sa.keep hW).cell, hc1]
          have k2 : ∀ W, Below wr.heap.size wr W → W.cell? ⟨gb, 1 + z, none⟩ = some (.slice A2 n2 c2) := fun W hW => by rw [(HT.out.sb.keep hW).cell, hc2]
          have heq := fun W (hW : Below wr.heap.size wr W) => intsB A1 A2 n1 c1 n2 c2 _ _ W _ _ (hN1.below (keepB hW HT.out.b)) (hN2.below (keepB hW HT.out.b)) (by have := hN1.len; have := la z hlt; omega) (by have := hN2.len; have := lb z hlt; omega)
          obtain ⟨r, hr⟩ : ∃ r, r = decide (a.lists z = b.lists z) := ⟨_, rfl⟩
          rw [← hr] at heq
          have HR := Lib.hid hr
          have HE := Lib.hid heq
          clear hr hN1 hN2 hc1 hc2 heq
          go_upto_region 12 with fail
          refine region_below (by kernel_rfl) (fun hHeld => ?_)
          refine wpAnyH_take (i := 0) (v := ?_) rfl (by kernel_rfl) (by kernel_rfl) (by kernel_rfl) (fun _ _ _ h => h) (Or.inl ⟨by rfl, ?_⟩) hHeld ?_
          rotate_left
          · (intro w hSw; go_simp; (try with_reducible rfl))
          simp only [Act.put, List.getElem_toArray, List.getElem_cons_zero, List.getElem_cons_succ, List.setIfInBounds_toArray, List.set_cons_zero, List.set_cons_succ]
          refine wpAnyH_take (i := 1) (v := ?_) rfl (by kernel_rfl) (by kernel_rfl) (by kernel_rfl) (fun _ _ _ h => h) (Or.inl ⟨by rfl, ?_⟩) hHeld ?_
          rotate_left
          · (intro w hSw; go_simp; (try with_reducible rfl))
          simp only [Act.put, List.getElem_toArray, List.getElem_cons_zero, List.getElem_cons_succ, List.setIfInBounds_toArray, List.set_cons_zero, List.set_cons_succ]
          refine wpAnyH_take (i := 2) (v := ?_) rfl (by kernel_rfl) (by kernel_rfl) (by kernel_rfl) (fun _ _ _ h => h) (Or.inl ⟨by rfl, ?_⟩) hHeld ?_
          rotate_left
          · (intro w hSw; go_simp; (try with_reducible rfl))
          simp only [Act.put, List.getElem_toArray, List.getElem_cons_zero, List.getElem_cons_succ, List.setIfInBounds_toArray, List.set_cons_zero, List.set_cons_succ]
          refine wpAnyH_take (i := 3) (v := ?_) rfl (by kernel_rfl) (by kernel_rfl) (by kernel_rfl) (fun _ _ _ h => h) (Or.inl ⟨by rfl, ?_⟩) hHeld ?_
          rotate_left
          · (intro w hSw; go_simp; (try with_reducible rfl))
          simp only [Act.put, List.getElem_toArray, List.getElem_cons_zero, List.getElem_cons_succ, List.setIfInBounds_toArray, List.set_cons_zero, List.set_cons_succ]
          refine wpAnyH_take (i := 4) (v := ?_) rfl (by kernel_rfl) (by kernel_rfl) (by kernel_rfl) (fun _ _ _ h => h) (Or.inl ⟨by rfl, ?_⟩) hHeld ?_
          rotate_left
          · (intro w hSw; go_simp; (try with_reducible rfl))
          simp only [Act.put, List.getElem_toArray, List.getElem_cons_zero, List.getElem_cons_succ, List.setIfInBounds_toArray, List.set_cons_zero, List.set_cons_succ]
          refine wpAnyH_take (i := 5) (v := ?_) rfl (by kernel_rfl) (by kernel_rfl) (by kernel_rfl) (fun _ _ _ h => h) (Or.inl ⟨by rfl, ?_⟩) hHeld ?_
          rotate_left
          · (intro w hSw; go_simp; (try with_reducible rfl))
          simp only [Act.put, List.getElem_toArray, List.getElem_cons_zero, List.getElem_cons_succ, List.setIfInBounds_toArray, List.set_cons_zero, List.set_cons_succ]
          refine wpAnyH_take (i := 6) (v := ?_) rfl (by kernel_rfl) (by kernel_rfl) (by kernel_rfl) (fun _ _ _ h => h) (Or.inl ⟨by rfl, ?_⟩) hHeld ?_
          rotate_left
          · (intro w hSw; go_simp; (try with_reducible rfl))
          simp only [Act.put, List.getElem_toArray, List.getElem_cons_zero, List.getElem_cons_succ, List.setIfInBounds_toArray, List.set_cons_zero, List.set_cons_succ]
          refine wpAnyH_take (i := 7) (v := ?_) rfl (by kernel_rfl) (by kernel_rfl) (by kernel_rfl) (fun _ _ _ h => h) (Or.inl ⟨by rfl, ?_⟩) hHeld ?_
          rotate_left
          · (intro w hSw; go_simp; (try with_reducible rfl))
          simp only [Act.put, List.getElem_toArray, List.getElem_cons_zero, List.getElem_cons_succ, List.setIfInBounds_toArray, List.set_cons_zero, List.set_cons_succ]
          refine wpAnyH_ready (rs := [8]) (by kernel_rfl) (by simp) ?_
          refine AllReadyH.cons rfl (fun K hK => ?_) AllReadyH.nil
          simp only [List.getElem_toArray, List.getElem_cons_zero, List.getElem_cons_succ]
          go_simp
          refine (HE.out _ hHeld).mono ?_
          rintro e w4 ⟨rfl, hb4⟩
          go_wp2_with fail
          have hB4 := keepB hb4 hHeld
          refine hK.out _ _ hB4 (fun _ => ?_)
          clear hK K
          try simp only [Act.put, List.setIfInBounds_toArray, List.set_cons_zero, List.set_cons_succ]
          refine anyH_rebase hB4 (fun hHeld => ?_)
          refine wpAnyH_take (i := 9) (v := ?_) rfl (by kernel_rfl) (by kernel_rfl) (by kernel_rfl) (fun _ _ _ h => h) (Or.inl ⟨by rfl, ?_⟩) hHeld ?_
          rotate_left
          · (intro w hSw; go_simp; (try with_reducible rfl))
          simp only [Act.put, List.getElem_toArray, List.getElem_cons_zero, List.getElem_cons_succ, List.setIfInBounds_toArray, List.set_cons_zero, List.set_cons_succ]
          refine wpAnyH_done (by kernel_rfl) ?_ _
          have HT2 := Lib.hid (HT.out.keep hB4)
          have hbw := HT2.out.b
          clear HE k1 k2 hB4 hHeld
          by_cases hrt : r = true
          · subst hrt
            have HL2 := Lib.hid (show ∀ y, y < z + 1 → a.lists y = b.lists y from fun y hy => by
              by_cases e : y = z
              · subst e; exact of_decide_eq_true HR.out.symm
              · exact HL.out y (by omega))
            go_wp2_with fail
            go_roundw
            case rel => exact ⟨z + 1, by go_num, by omega, HL2, HT2⟩
            case measure => simp [intOf]; omega
          · obtain rfl : r = false := by simpa using hrt
            have hf : sameS a b = false := HF.out.trans (sameL_bad hlt (of_decide_eq_false HR.out.symm))
            obtain rfl := HQ.out.trans hf
            clear hf
            go_wp2_with fail
            go_ret
            exact ⟨rfl, hbw⟩
        · obtain rfl : z = 11 := by omega
          have hf := HF.out.trans (sameL_good HL.out)
          have hbw := HT.out.b
          obtain rfl := HQ.out.trans hf
          clear hf
          go_wp2_with fail
          go_ret
          exact ⟨rfl, hbw⟩
end Go.Proofs.Ytmneajmedopheaa
