/- Layer 15: the law KnowShows. -/
import Derived.Test.YtmhabodijmnldaaKwAlive
import Derived.Test.YtmhabodijmnldaaKwSaid2
import Derived.Test.YtmhabodijmnldaaKwRef2
import Derived.Test.YtmhabodijmnldaaKwChg
import Derived.Test.YtmhabodijmnldaaKwLw
import Derived.Test.YtmhabodijmnldaaNtRef
import Derived.Test.YtmhabodijmnldaaNum
namespace Go.Proofs.Ytmhabodijmnldaa
open Go.RowKit Ex
set_option maxRecDepth 100000
set_option linter.unusedSimpArgs false in
set_option maxHeartbeats 0 in
theorem knowShows_walk {w : World} (E : KwSaid w) (E2 : KwSaid2 w) (s : StT) (O : SlT) (L : Nat → SlT) (cs : Array Value) (id ps : Int) (hR : ReadsS w.heap.size w cs s O L) (hid : N64 id) (hps : N64 ps) :
    Calls Try.prog 3 #[.agg cs, .int .i64 id, .int .i64 ps] w fun en w' => en = .returned (.bool true) ∧ Below w.heap.size w w' := by
  have hcs := hR.size
  have HR := Lib.hid hR
  have HI := Lib.hid hid
  have HP := Lib.hid hps
  clear hR hid hps
  obtain ⟨i0, hi, hz0, hz1, hz2⟩ := info_parts info_intK
  go_enter Try.func3, Try.ntmps3
  go_upto_region 1 with fail
  obtain ⟨w1, hw1⟩ : ∃ w1, w1 = w.alloc (.cells cs 29) := ⟨_, rfl⟩
  obtain ⟨gs, hgs⟩ : ∃ g, g = w.heap.size := ⟨_, rfl⟩
  have HW := Lib.hid (show KW w gs cs w1 from by
    rw [hw1, hgs]
    exact ⟨(Below.refl _ _).alloc (Nat.le_refl _) _, StAt.new w cs⟩)
  show Code.wp _ _ _ _ (w.alloc (.cells cs 29))
  rw [← hw1, ← hgs]
  have HGs := Lib.hid hgs
  clear hw1 hgs
  go_wp2_with fail
  refine (kwAlive E w1 HW.out.b).mono ?_
  rintro en w2 ⟨rfl, hb2⟩
  have HW2 := Lib.hid (HW.out.keep hb2)
  have hsa := HW2.out.a
  clear HW hb2
  go_wp2_with (refine load_wantS (by rfl) (.tmp 3) rfl gs rfl cs hsa hcs ?_)
  have hl := long_any s O L cs 100 w2 w2.heap.size (HW2.out.reads HR.out) (by omega)
  rw [show ((100 : Nat) : Int) = 100 from rfl] at hl
  refine hl.mono ?_
  clear hl hsa
  rintro en w3 ⟨rfl, hb3⟩
  have HW3 := Lib.hid (HW2.out.keep hb3)
  clear HW2 hb3
  by_cases hlg : longS s 100 = true
  · have hbw := HW3.out.b
    rw [hlg]
    go_wp2_with fail
    go_ret
    exact ⟨rfl, hbw⟩
  replace hlg : longS s 100 = false := by simpa using hlg
  obtain ⟨hn, hll⟩ := long_not (most := 100) hlg
  rw [hlg]
  have HNl := Lib.hid (And.intro hn hll)
  clear hlg hn hll
  have HLs := Lib.hid (show s.objs.length ≤ 1000 ∧ ∀ z < 11, (s.lists z).length ≤ 1000 from ⟨by have := HNl.out.1; omega, fun z hz => by have := HNl.out.2 z hz; omega⟩)
  have c0 : cs[0]? = some (.slice O.A O.n O.c) := by rw [HR.out.cs]; exact stC_objs _ _ _ _
  have hOn := HR.out.on
  obtain ⟨A, n, c⟩ := O
  simp only at c0 hOn
  subst hOn
  go_upto_region 6 with fail
  obtain ⟨w4, hw4⟩ : ∃ W, W = w3.alloc (.cells #[] 3) := ⟨_, rfl⟩
  have hb4 : Below w3.heap.size w3 w4 := by rw [hw4]; exact (Below.refl _ _).alloc (Nat.le_refl _) _
  have HO0 := Lib.hid (show Own .i64 3 w4 w3.heap.size (some ⟨w3.heap.size, 0, none⟩) 0 0 (knownK ps 0 (s.objs.take 0)) from by rw [hw4]; exact own_empty w3 _ (Nat.le_refl _))
  rw [← hw4]
  have HB4 := Lib.hid hb4
  have cg : w4.cell? ⟨gs, 0, none⟩ = some (.slice A s.objs.length c) := by rw [(HW3.out.a.keep hb4).cell]; exact c0
  clear hw4 hb4 c0
  go_upto_region 7 with fail
  go_loopw [7, 18] (fun v i wr => ∃ (A1 : Option Addr) (m c1 k : Nat), v = .slice A1 m c1 ∧ i = .int .i64 ((k : Nat) : Int) ∧ k ≤ s.objs.length ∧ Hid (Own .i64 3 wr w3.heap.size A1 m c1 (knownK ps 0 (s.objs.take k))) ∧ Hid (Below w3.heap.size w3 wr)) (fun _ i _ => s.objs.length - (intOf i).toNat)
  case atStart => exact ⟨_, 0, 0, 0, rfl, rfl, by omega, HO0, HB4⟩
  case round =>
    clear HO0 HB4 cg
    obtain ⟨A1, m, c1, k, rfl, rfl, hk, HO1, HB1⟩ := hrel
    have HW1 := Lib.hid (HW3.out.keep HB1.out)
    by_cases hlt : k < s.objs.length
    · obtain ⟨o, ho⟩ : ∃ o, s.objs[k]? = some o := ⟨_, List.getElem?_eq_getElem hlt⟩
      obtain ⟨b, off, ea, hbl, hra⟩ := HR.out.o k o ho
      simp only at ea
      subst ea
      have HRa := Lib.hid (range_below HW1.out.b hbl hra)
      have HOw := Lib.hid (HR.out.ow o (List.mem_of_getElem? ho))
      have HTk := Lib.hid (knownK_take (p := ps) ho)
      have hmk : m ≤ 1000 := by
        have h1 := HO1.out.len
        have h2 := known_len ps (s.objs.take k) 0
        have h3 := HLs.out.1
        rw [List.length_take] at h2
        omega
      have p0 : (0 : Int) ≤ (k : Int) := by omega
      have p1 : (k : Int) < (s.objs.length : Int) := by omega
      have p2 : (k : Int) ≤ 1000 := by have := HLs.out.1; omega
      have hz := st_zero18
      have hnew : (wr.alloc (.cells (arr .i64 18 fun _ => 0) 33)).heap[wr.heap.size]? = some (.cells (arr .i64 18 fun _ => 0) 33 (0, 0)) := heap_alloc_new _ _
      have hsx : (Try.prog.info? 33).map (·.size) = some (arr .i64 18 o).size := by rw [arr_size]; exact st_size18
      clear ho hra hbl
      go_upto_region 9 with (first
        | (refine load_obj rfl (.tmp 21) rfl b (off + k * 18) rfl o HRa.out ?_)
        | (refine wpList_store_row rfl 33 (.tmp 9) (.tmp 22) rfl wr.heap.size _ rfl rfl 33 (arr .i64 18 fun _ => 0) hnew hsx (by rw [arr_size, arr_size]) (arr_one .i64 18 o) ?_))
      obtain ⟨w5, hw5, hO5, hb5⟩ := ob_box wr o
      rw [← hw5]
      have HB5 := Lib.hid (keepB hb5 HB1.out)
      have HOx := Lib.hid (HO1.out.below hb5 (Nat.le_refl _))
      obtain ⟨go, hgo⟩ : ∃ g, g = wr.heap.size := ⟨_, rfl⟩
      rw [← hgo] at hO5 ⊢
      have HO4 := Lib.hid hO5
      obtain ⟨q, hq⟩ : ∃ q, q = bitK (o 17) ps := ⟨_, rfl⟩
      have hqq : (q != q) = false := bne_self_eq_false _
      have HKr := Lib.hid (fun W => (show Calls Try.prog 8 #[.agg (arr .i64 18 o), .int .i64 ps] W fun en w' => en = .returned (.bool q) ∧ Below W.heap.size W w' from by have h := knowsRef_any o ps W; rw [← hq] at h; exact h))
      have HKc := Lib.hid (fun W (hW : Below w5.heap.size w5 W) => (show Calls Try.prog 7 #[.agg (arr .i64 18 o), .int .i64 ps] W fun en w' => en = .returned (.bool q) ∧ Below W.heap.size W w' from by have h := E.knows o ps W HOw.out HP.out (HW3.out.keep (keepB hW HB5.out)).b; rw [← hq] at h; exact h))
      rw [← hq] at HTk
      clear hw5 hgo hnew hsx hz hb5 hO5 hq HO1 HB1 HW1 HRa HOw
      refine wp_region_held_drew (S := fun W => Below w5.heap.size w5 W) (by kernel_rfl) (Below.refl _ _).drew (fun hHeld => ?_)
      refine wpAnyH_take (i := 0) (v := .agg (arr .i64 18 o)) rfl (by kernel_rfl) (by kernel_rfl) (by kernel_rfl) (fun _ _ _ h => h) (yields_obK (by rfl) (.tmp 9) rfl go rfl o (fun W hW => ObAt.keep HO4.out hW)) hHeld ?_
      simp only [Act.put, List.getElem_toArray, List.getElem_cons_zero, List.getElem_cons_succ, List.setIfInBounds_toArray, List.set_cons_zero, List.set_cons_succ]
      refine wpAnyH_take (i := 1) (v := ?_) rfl (by kernel_rfl) (by kernel_rfl) (by kernel_rfl) (fun _ _ _ h => h) (Or.inl ⟨by rfl, ?_⟩) hHeld ?_
      rotate_left
      · (intro w hSw; go_simp; (try with_reducible rfl))
      simp only [Act.put, List.getElem_toArray, List.getElem_cons_zero, List.getElem_cons_succ, List.setIfInBounds_toArray, List.set_cons_zero, List.set_cons_succ]
      refine wpAnyH_take (i := 3) (v := .agg (arr .i64 18 o)) rfl (by kernel_rfl) (by kernel_rfl) (by kernel_rfl) (fun _ _ _ h => h) (yields_obK (by rfl) (.tmp 9) rfl go rfl o (fun W hW => ObAt.keep HO4.out hW)) hHeld ?_
      simp only [Act.put, List.getElem_toArray, List.getElem_cons_zero, List.getElem_cons_succ, List.setIfInBounds_toArray, List.set_cons_zero, List.set_cons_succ]
      refine wpAnyH_take (i := 4) (v := ?_) rfl (by kernel_rfl) (by kernel_rfl) (by kernel_rfl) (fun _ _ _ h => h) (Or.inl ⟨by rfl, ?_⟩) hHeld ?_
      rotate_left
      · (intro w hSw; go_simp; (try with_reducible rfl))
      simp only [Act.put, List.getElem_toArray, List.getElem_cons_zero, List.getElem_cons_succ, List.setIfInBounds_toArray, List.set_cons_zero, List.set_cons_succ]
      refine wpAnyH_ready (rs := [2]) (by kernel_rfl) (by simp) ?_
      refine AllReadyH.cons rfl (fun K hK => ?_) AllReadyH.nil
      simp only [List.getElem_toArray, List.getElem_cons_zero, List.getElem_cons_succ]
      go_simp
      refine (HKc.out _ hHeld).mono ?_
      rintro en w6 ⟨rfl, hb6⟩
      go_wp2_with fail
      have hHeld := keepB hb6 hHeld
      refine hK.out _ _ hHeld (fun _ => ?_)
      clear hK K
      try simp only [Act.put, List.setIfInBounds_toArray, List.set_cons_zero, List.set_cons_succ]
      refine wpAnyH_ready (rs := [5]) (by kernel_rfl) (by simp) ?_
      refine AllReadyH.cons rfl (fun K hK => ?_) AllReadyH.nil
      simp only [List.getElem_toArray, List.getElem_cons_zero, List.getElem_cons_succ]
      go_simp
      refine (HKr.out _).mono ?_
      rintro en w7 ⟨rfl, hb7⟩
      go_wp2_with fail
      have hHeld := keepB hb7 hHeld
      refine hK.out _ _ hHeld (fun _ => ?_)
      clear hK K
      try simp only [Act.put, List.setIfInBounds_toArray, List.set_cons_zero, List.set_cons_succ]
      refine wpAnyH_take (i := 6) (v := ?_) rfl (by kernel_rfl) (by kernel_rfl) (by kernel_rfl) (fun _ _ _ h => h) (Or.inl ⟨by rfl, ?_⟩) hHeld ?_
      rotate_left
      · (intro w hSw; go_simp; (try with_reducible rfl))
      simp only [Act.put, List.getElem_toArray, List.getElem_cons_zero, List.getElem_cons_succ, List.setIfInBounds_toArray, List.set_cons_zero, List.set_cons_succ]
      refine wpAnyH_done (by kernel_rfl) ?_ _
      have HB7 := Lib.hid (keepB hHeld HB5.out)
      have HO7 := Lib.hid (HOx.out.below hHeld (Nat.le_refl _))
      have hO7 := (ObAt.keep HO4.out hHeld).range
      clear HB5 HOx hb6 hb7 HO4 hHeld hqq HKc
      go_wp2_with (refine load_objW (by rfl) (.tmp 9) rfl go 0 rfl o hO7 ?_)
      refine (HKr.out w7).mono ?_
      rintro en w8 ⟨rfl, hb8⟩
      have HB8 := Lib.hid (keepB hb8 HB7.out)
      have HO8 := Lib.hid (HO7.out.below hb8 (Nat.le_refl _))
      clear hb8 HB7 HO7 hO7 HKr
      cases q with
      | true =>
        have HTk := Lib.hid (HTk.out.trans (by rw [if_pos rfl]))
        go_wp2_with (at_builtin; refine wpList_app rfl (.tmp 33) (.tmp 35) _ rfl .i64 w3.heap.size 3 i0 _ 8 Try.underlying23 hi hz0 hz1 hz2 rfl A1 m c1 _ rfl (HO8.out.alloc _) _ (some ⟨w8.heap.size, 0, none⟩) 1 1 [(k : Int)] rfl (Nums.one _ _ _ _) (by omega) (by omega) (by have := HB8.out.size; simp; omega) ?_; intro A6 c6 w9 hown9 hg9)
        have HO9 := Lib.hid hown9
        have HB9 := Lib.hid ((HO8.out.alloc (.cells #[.int .i64 (k : Int)] 3)).belowGrown (HB8.out.alloc HB8.out.size _) (by have := HB8.out.size; simp; omega) hg9)
        clear hown9 hg9
        go_roundw
        case rel => exact ⟨A6, _, c6, k + 1, rfl, by go_num, by omega, by rw [HTk.out]; exact HO9, HB9⟩
        case measure => simp [intOf]; omega
      | false =>
        have HTk := Lib.hid (HTk.out.trans (by rw [if_neg (by simp), List.append_nil]))
        go_wp2_with fail
        go_roundw
        case rel => exact ⟨A1, m, c1, k + 1, rfl, by go_num, by omega, by rw [HTk.out]; exact HO8, HB8⟩
        case measure => simp [intOf]; omega
    · obtain rfl : k = s.objs.length := by omega
      have HL := Lib.hid (show Own .i64 3 wr w3.heap.size A1 m c1 (knownK ps 0 s.objs) from by have h := HO1.out; rw [List.take_length] at h; exact h)
      have HK := Lib.hid (E2.known s _ L cs ps wr (HW1.out.reads HR.out) HLs.out.1 HLs.out.2 HP.out HW1.out.b)
      have hm1 := HO1.out.len
      have hm2 := known_len ps (s.objs.take s.objs.length) 0
      have hm3 := HLs.out.1
      rw [List.take_length] at hm1 hm2
      have hsa := HW1.out.a
      have HMm := Lib.hid (show m ≤ 1000 by omega)
      have hkn := HK.out
      unfold KwIP at hkn
      clear HO1 hm1 hm2 hm3
      go_wp2_with (refine load_wantS (by rfl) (.tmp 3) rfl gs rfl cs hsa hcs ?_)
      refine hkn.mono ?_
      rintro en w5 ⟨A2, n2, c2, rfl, hc2, hN2, hb5⟩
      have HB5 := Lib.hid (keepB hb5 HB1.out)
      have hin := ints_any A2 A1 n2 c2 m c1 _ _ w5 _ _ hN2 (HL.out.below hb5 (Nat.le_refl _)).nums (by have := hN2.len; have := HL.out.len; have := HMm.out; omega) (by have := HMm.out; omega)
      rw [decide_eq_true rfl] at hin
      clear hkn HK hsa hb5
      go_wp2_with fail
      refine hin.mono ?_
      rintro en w6 ⟨rfl, mm, rfl⟩
      have HB6 := Lib.hid (show Below w3.heap.size w3 (w5.drewN mm) from below_drewN HB5.out mm)
      clear hin
      obtain ⟨w7, hw7⟩ : ∃ W, W = w5.drewN mm := ⟨_, rfl⟩
      rw [← hw7] at HB6 ⊢
      clear hw7 HB5 hN2
      have hzc := E.zone id w7 HI.out (HW3.out.keep HB6.out).b
      obtain ⟨q, hq⟩ : ∃ q, q = zoneK id := ⟨_, rfl⟩
      have hzr := fun W => zoneRef_any id W
      rw [← hq] at hzc hzr
      have hqq : (q != q) = false := bne_self_eq_false _
      have HZr := Lib.hid hzr
      clear hq hzr
      go_wp2_with fail
      refine hzc.mono ?_
      rintro en w8 ⟨rfl, hb8⟩
      have HB8 := Lib.hid (keepB hb8 HB6.out)
      clear hb8 hzc HB6
      go_wp2_with fail
      refine (HZr.out w8).mono ?_
      rintro en w9 ⟨rfl, rfl⟩
      go_upto_region 16 with fail
      have HW8 := Lib.hid (HW3.out.keep HB8.out)
      have HSh := Lib.hid (fun W (hW : KW w gs cs W) => E.show_ s _ L cs id ps W (hW.reads HR.out) HLs.out.1 HLs.out.2 HI.out HP.out hW.b)
      have HHd := Lib.hid (fun W (hW : KW w gs cs W) => E.hide s _ L cs id ps W (hW.reads HR.out) HLs.out.1 HLs.out.2 HI.out HP.out hW.b)
      have HCh := Lib.hid (fun (is : Bool) W (hW : KW w gs cs W) => changeRef_any s _ L cs id ps is W (hW.reads HR.out) (by have := HLs.out.1; omega) HI.out)
      clear HL HB1 HW1 HMm HB8 hqq HZr HW3 HLs HNl
      refine wp_region_held_drew (S := fun W => KW w gs cs W) (by kernel_rfl) (show KW w gs cs w8.drew from HW8.out.keep (Below.refl _ _).drew) (fun hHeld => ?_)
      clear HW8
      refine wpAnyH_take (i := 0) (v := .agg cs) rfl (by kernel_rfl) (by kernel_rfl) (by kernel_rfl) (fun _ _ _ h => h) (yields_st (by rfl) (.tmp 3) rfl gs rfl cs hcs (fun W hW => KW.a hW)) hHeld ?_
      simp only [Act.put, List.getElem_toArray, List.getElem_cons_zero, List.getElem_cons_succ, List.setIfInBounds_toArray, List.set_cons_zero, List.set_cons_succ]
      refine wpAnyH_take (i := 1) (v := ?_) rfl (by kernel_rfl) (by kernel_rfl) (by kernel_rfl) (fun _ _ _ h => h) (Or.inl ⟨by rfl, ?_⟩) hHeld ?_
      rotate_left
      · (intro w hSw; go_simp; (try with_reducible rfl))
      simp only [Act.put, List.getElem_toArray, List.getElem_cons_zero, List.getElem_cons_succ, List.setIfInBounds_toArray, List.set_cons_zero, List.set_cons_succ]
      refine wpAnyH_take (i := 2) (v := ?_) rfl (by kernel_rfl) (by kernel_rfl) (by kernel_rfl) (fun _ _ _ h => h) (Or.inl ⟨by rfl, ?_⟩) hHeld ?_
      rotate_left
      · (intro w hSw; go_simp; (try with_reducible rfl))
      simp only [Act.put, List.getElem_toArray, List.getElem_cons_zero, List.getElem_cons_succ, List.setIfInBounds_toArray, List.set_cons_zero, List.set_cons_succ]
      refine wpAnyH_take (i := 4) (v := .agg cs) rfl (by kernel_rfl) (by kernel_rfl) (by kernel_rfl) (fun _ _ _ h => h) (yields_st (by rfl) (.tmp 3) rfl gs rfl cs hcs (fun W hW => KW.a hW)) hHeld ?_
      simp only [Act.put, List.getElem_toArray, List.getElem_cons_zero, List.getElem_cons_succ, List.setIfInBounds_toArray, List.set_cons_zero, List.set_cons_succ]
      refine wpAnyH_take (i := 5) (v := ?_) rfl (by kernel_rfl) (by kernel_rfl) (by kernel_rfl) (fun _ _ _ h => h) (Or.inl ⟨by rfl, ?_⟩) hHeld ?_
      rotate_left
      · (intro w hSw; go_simp; (try with_reducible rfl))
      simp only [Act.put, List.getElem_toArray, List.getElem_cons_zero, List.getElem_cons_succ, List.setIfInBounds_toArray, List.set_cons_zero, List.set_cons_succ]
      refine wpAnyH_take (i := 6) (v := ?_) rfl (by kernel_rfl) (by kernel_rfl) (by kernel_rfl) (fun _ _ _ h => h) (Or.inl ⟨by rfl, ?_⟩) hHeld ?_
      rotate_left
      · (intro w hSw; go_simp; (try with_reducible rfl))
      simp only [Act.put, List.getElem_toArray, List.getElem_cons_zero, List.getElem_cons_succ, List.setIfInBounds_toArray, List.set_cons_zero, List.set_cons_succ]
      refine wpAnyH_ready (rs := [3]) (by kernel_rfl) (by simp) ?_
      refine AllReadyH.cons rfl (fun K hK => ?_) AllReadyH.nil
      simp only [List.getElem_toArray, List.getElem_cons_zero, List.getElem_cons_succ]
      go_simp
      have hsh := HSh.out _ hHeld
      unfold EvsP at hsh
      refine hsh.mono ?_
      clear hsh
      rintro en wA ⟨AA, nA, cA, rfl, hcA, hVA, hbA⟩
      go_wp2_with fail
      have hHeld := hHeld.keep hbA
      have HVA := Lib.hid hVA
      refine hK.out _ _ hHeld (fun _ => ?_)
      clear hK K
      try simp only [Act.put, List.setIfInBounds_toArray, List.set_cons_zero, List.set_cons_succ]
      clear hVA
      refine wpAnyH_ready (rs := [7]) (by kernel_rfl) (by simp) ?_
      refine AllReadyH.cons rfl (fun K hK => ?_) AllReadyH.nil
      simp only [List.getElem_toArray, List.getElem_cons_zero, List.getElem_cons_succ]
      go_simp
      have hsh := HCh.out true _ hHeld
      unfold EvsP at hsh
      refine hsh.mono ?_
      clear hsh
      rintro en wB ⟨AB, nB, cB, rfl, hcB, hVB, hbB⟩
      go_wp2_with fail
      have hHeld := hHeld.keep hbB
      have HVA := Lib.hid (HVA.out.grow hbB)
      obtain rfl : nA = nB := HVA.out.n.trans hVB.n.symm
      have HVB := Lib.hid hVB
      refine hK.out _ _ hHeld (fun _ => ?_)
      clear hK K
      try simp only [Act.put, List.setIfInBounds_toArray, List.set_cons_zero, List.set_cons_succ]
      clear hVB
      refine wpAnyH_ready (rs := [8]) (by kernel_rfl) (by simp) ?_
      refine AllReadyH.cons rfl (fun K hK => ?_) AllReadyH.nil
      simp only [List.getElem_toArray, List.getElem_cons_zero, List.getElem_cons_succ]
      go_simp
      have hev := events_any AA AB nA cA cB _ _ HVA.out HVB.out (by have h1 := HVA.out.n; have h2 := show_len (os := s.objs) (id := id) (ps := ps) (is := true); omega)
      refine hev.mono ?_
      clear hev
      rintro en wC ⟨rfl, hbC⟩
      go_wp2_with fail
      have hHeld := hHeld.keep hbC
      refine hK.out _ _ hHeld (fun _ => ?_)
      clear hK K
      try simp only [Act.put, List.setIfInBounds_toArray, List.set_cons_zero, List.set_cons_succ]
      clear HVA HVB hcA hcB hbA hbB hbC
      refine wpAnyH_take (i := 9) (v := ?_) rfl (by kernel_rfl) (by kernel_rfl) (by kernel_rfl) (fun _ _ _ h => h) (Or.inl ⟨by rfl, ?_⟩) hHeld ?_
      rotate_left
      · (intro w hSw; go_simp; (try with_reducible rfl))
      simp only [Act.put, List.getElem_toArray, List.getElem_cons_zero, List.getElem_cons_succ, List.setIfInBounds_toArray, List.set_cons_zero, List.set_cons_succ]
      refine wpAnyH_take (i := 10) (v := .agg cs) rfl (by kernel_rfl) (by kernel_rfl) (by kernel_rfl) (fun _ _ _ h => h) (yields_st (by rfl) (.tmp 3) rfl gs rfl cs hcs (fun W hW => KW.a hW)) hHeld ?_
      simp only [Act.put, List.getElem_toArray, List.getElem_cons_zero, List.getElem_cons_succ, List.setIfInBounds_toArray, List.set_cons_zero, List.set_cons_succ]
      refine wpAnyH_take (i := 11) (v := ?_) rfl (by kernel_rfl) (by kernel_rfl) (by kernel_rfl) (fun _ _ _ h => h) (Or.inl ⟨by rfl, ?_⟩) hHeld ?_
      rotate_left
      · (intro w hSw; go_simp; (try with_reducible rfl))
      simp only [Act.put, List.getElem_toArray, List.getElem_cons_zero, List.getElem_cons_succ, List.setIfInBounds_toArray, List.set_cons_zero, List.set_cons_succ]
      refine wpAnyH_take (i := 12) (v := ?_) rfl (by kernel_rfl) (by kernel_rfl) (by kernel_rfl) (fun _ _ _ h => h) (Or.inl ⟨by rfl, ?_⟩) hHeld ?_
      rotate_left
      · (intro w hSw; go_simp; (try with_reducible rfl))
      simp only [Act.put, List.getElem_toArray, List.getElem_cons_zero, List.getElem_cons_succ, List.setIfInBounds_toArray, List.set_cons_zero, List.set_cons_succ]
      refine wpAnyH_take (i := 14) (v := .agg cs) rfl (by kernel_rfl) (by kernel_rfl) (by kernel_rfl) (fun _ _ _ h => h) (yields_st (by rfl) (.tmp 3) rfl gs rfl cs hcs (fun W hW => KW.a hW)) hHeld ?_
      simp only [Act.put, List.getElem_toArray, List.getElem_cons_zero, List.getElem_cons_succ, List.setIfInBounds_toArray, List.set_cons_zero, List.set_cons_succ]
      refine wpAnyH_take (i := 15) (v := ?_) rfl (by kernel_rfl) (by kernel_rfl) (by kernel_rfl) (fun _ _ _ h => h) (Or.inl ⟨by rfl, ?_⟩) hHeld ?_
      rotate_left
      · (intro w hSw; go_simp; (try with_reducible rfl))
      simp only [Act.put, List.getElem_toArray, List.getElem_cons_zero, List.getElem_cons_succ, List.setIfInBounds_toArray, List.set_cons_zero, List.set_cons_succ]
      refine wpAnyH_take (i := 16) (v := ?_) rfl (by kernel_rfl) (by kernel_rfl) (by kernel_rfl) (fun _ _ _ h => h) (Or.inl ⟨by rfl, ?_⟩) hHeld ?_
      rotate_left
      · (intro w hSw; go_simp; (try with_reducible rfl))
      simp only [Act.put, List.getElem_toArray, List.getElem_cons_zero, List.getElem_cons_succ, List.setIfInBounds_toArray, List.set_cons_zero, List.set_cons_succ]
      refine wpAnyH_ready (rs := [13]) (by kernel_rfl) (by simp) ?_
      refine AllReadyH.cons rfl (fun K hK => ?_) AllReadyH.nil
      simp only [List.getElem_toArray, List.getElem_cons_zero, List.getElem_cons_succ]
      go_simp
      have hsh := HHd.out _ hHeld
      unfold EvsP at hsh
      refine hsh.mono ?_
      clear hsh
      rintro en wA ⟨AA, nA, cA, rfl, hcA, hVA, hbA⟩
      go_wp2_with fail
      have hHeld := hHeld.keep hbA
      have HVA := Lib.hid hVA
      refine hK.out _ _ hHeld (fun _ => ?_)
      clear hK K
      try simp only [Act.put, List.setIfInBounds_toArray, List.set_cons_zero, List.set_cons_succ]
      clear hVA
      refine wpAnyH_ready (rs := [17]) (by kernel_rfl) (by simp) ?_
      refine AllReadyH.cons rfl (fun K hK => ?_) AllReadyH.nil
      simp only [List.getElem_toArray, List.getElem_cons_zero, List.getElem_cons_succ]
      go_simp
      have hsh := HCh.out false _ hHeld
      unfold EvsP at hsh
      refine hsh.mono ?_
      clear hsh
      rintro en wB ⟨AB, nB, cB, rfl, hcB, hVB, hbB⟩
      go_wp2_with fail
      have hHeld := hHeld.keep hbB
      have HVA := Lib.hid (HVA.out.grow hbB)
      obtain rfl : nA = nB := HVA.out.n.trans hVB.n.symm
      have HVB := Lib.hid hVB
      refine hK.out _ _ hHeld (fun _ => ?_)
      clear hK K
      try simp only [Act.put, List.setIfInBounds_toArray, List.set_cons_zero, List.set_cons_succ]
      clear hVB
      refine wpAnyH_ready (rs := [18]) (by kernel_rfl) (by simp) ?_
      refine AllReadyH.cons rfl (fun K hK => ?_) AllReadyH.nil
      simp only [List.getElem_toArray, List.getElem_cons_zero, List.getElem_cons_succ]
      go_simp
      have hev := events_any AA AB nA cA cB _ _ HVA.out HVB.out (by have h1 := HVA.out.n; have h2 := show_len (os := s.objs) (id := id) (ps := ps) (is := false); omega)
      refine hev.mono ?_
      clear hev
      rintro en wC ⟨rfl, hbC⟩
      go_wp2_with fail
      have hHeld := hHeld.keep hbC
      refine hK.out _ _ hHeld (fun _ => ?_)
      clear hK K
      try simp only [Act.put, List.setIfInBounds_toArray, List.set_cons_zero, List.set_cons_succ]
      clear HVA HVB hcA hcB hbA hbB hbC
      refine wpAnyH_take (i := 19) (v := ?_) rfl (by kernel_rfl) (by kernel_rfl) (by kernel_rfl) (fun _ _ _ h => h) (Or.inl ⟨by rfl, ?_⟩) hHeld ?_
      rotate_left
      · (intro w hSw; go_simp; (try with_reducible rfl))
      simp only [Act.put, List.getElem_toArray, List.getElem_cons_zero, List.getElem_cons_succ, List.setIfInBounds_toArray, List.set_cons_zero, List.set_cons_succ]
      refine wpAnyH_take (i := 20) (v := ?_) rfl (by kernel_rfl) (by kernel_rfl) (by kernel_rfl) (fun _ _ _ h => h) (Or.inl ⟨by rfl, ?_⟩) hHeld ?_
      rotate_left
      · (intro w hSw; go_simp; (try with_reducible rfl))
      simp only [Act.put, List.getElem_toArray, List.getElem_cons_zero, List.getElem_cons_succ, List.setIfInBounds_toArray, List.set_cons_zero, List.set_cons_succ]
      refine wpAnyH_done (by kernel_rfl) ?_ _
      have HF := Lib.hid hHeld.b
      clear hHeld
      go_wp2_with fail
      go_ret
      exact ⟨rfl, HF.out⟩
end Go.Proofs.Ytmhabodijmnldaa
