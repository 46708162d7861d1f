/- Layer 6: the laws' walks: EffectBytes, over what the reference's Take answers. -/
import Derived.Test.YtjijnapphbeahaaTreeLaws3
namespace Go.Proofs.Ytjijnapphbeahaa
open Go.RowKit Ex Wx
namespace Ex
theorem rdN_range {l : List Int} (hb : byB l) : ∀ n, ((rdN l n).2.2 ≠ 0 ∧ (rdN l n).1 = [] ∧ (rdN l n).2.1 = 0) ∨ ((rdN l n).2.2 = 0 ∧ n ≤ (rdN l n).2.1 ∧ (rdN l n).2.1 ≤ l.length ∧ (rdN l n).1.length = n ∧ ∀ x ∈ (rdN l n).1, i64B x)
  | 0 => .inr (by simp [rdN])
  | n + 1 => by
    rcases rdN_range hb n with ⟨h, _⟩ | ⟨h, h1, h2, h3, h4⟩
    · left
      simp only [rdN]
      rw [if_pos h]
      exact ⟨h, rfl, rfl⟩
    · simp only [rdN]
      rw [if_neg (not_not_intro h)]
      obtain ⟨z, k, e, htk⟩ : ∃ z k e, tk (l.drop (rdN l n).2.1) = (z, k, e) := ⟨_, _, _, rfl⟩
      simp only [htk]
      rcases tk_range (byB_drop _ hb) htk with ⟨_, _, he⟩ | ⟨rfl, k0, k1, _, hi, _⟩
      · left
        have hne : e ≠ 0 := by omega
        rw [if_pos hne]
        exact ⟨hne, rfl, rfl⟩
      · right
        rw [if_neg (by simp)]
        rw [List.length_drop] at k1
        refine ⟨rfl, by simp only; omega, by simp only; omega, by simp [h3], fun x hx => ?_⟩
        rcases List.mem_append.1 hx with hx | hx
        · exact h4 x hx
        · simp at hx; subst hx; exact hi
theorem tkS_range {g : List Int → ET × Nat × Int} (hg : ∀ l, byB l → ((g l).2.2 ≠ 0 ∧ (g l).1 = zT ∧ (g l).2.1 = 0) ∨ ((g l).2.2 = 0 ∧ sizeT (g l).1 ≤ (g l).2.1 ∧ (g l).2.1 ≤ l.length)) {l : List Int} (hb : byB l) :
    ∀ n, ((tkS g l n).2.2 ≠ 0 ∧ (tkS g l n).1 = [] ∧ (tkS g l n).2.1 = 0) ∨ ((tkS g l n).2.2 = 0 ∧ sizeL (tkS g l n).1 ≤ (tkS g l n).2.1 ∧ (tkS g l n).2.1 ≤ l.length ∧ (tkS g l n).1.length = n)
  | 0 => .inr (by simp [tkS, sizeL])
  | n + 1 => by
    rcases tkS_range hg hb n with ⟨h, _⟩ | ⟨h, h1, h2, h3⟩
    · left
      simp only [tkS]
      rw [if_pos h]
      exact ⟨h, rfl, rfl⟩
    · simp only [tkS]
      rw [if_neg (not_not_intro h)]
      rcases hg (l.drop (tkS g l n).2.1) (byB_drop _ hb) with ⟨he, _⟩ | ⟨he, k0, k1⟩
      · left
        rw [if_pos he]
        exact ⟨he, rfl, rfl⟩
      · right
        rw [if_neg (not_not_intro he)]
        rw [List.length_drop] at k1
        refine ⟨rfl, ?_, by simp only; omega, by simp [h3]⟩
        have happ : ∀ (a : List ET) (t : ET), sizeL (a ++ [t]) = sizeL a + sizeT t := by
          intro a t
          induction a with
          | nil => simp [sizeL]
          | cons x a ih => simp only [List.cons_append, sizeL, ih]; omega
        simp only [happ]; omega
theorem tkT_range : ∀ (f : Nat) (l : List Int), byB l → ((tkT f l).2.2 ≠ 0 ∧ (tkT f l).1 = zT ∧ (tkT f l).2.1 = 0) ∨ ((tkT f l).2.2 = 0 ∧ sizeT (tkT f l).1 ≤ (tkT f l).2.1 ∧ (tkT f l).2.1 ≤ l.length)
  | 0, l, _ => .inl ⟨by simp [tkT], by simp [tkT], by simp [tkT]⟩
  | f + 1, l, hb => by
    rcases rdN_range hb 5 with ⟨h, _⟩ | ⟨h, h1, h2, h3, _⟩
    · left
      simp only [tkT]
      rw [if_pos h]
      exact ⟨h, rfl, rfl⟩
    · simp only [tkT]
      rw [if_neg (not_not_intro h)]
      by_cases c1 : (rdN l 5).1.getD 4 0 < 0
      · left; rw [if_pos c1]; exact ⟨by decide, rfl, rfl⟩
      · rw [if_neg c1]
        by_cases c2 : 8 < (rdN l 5).1.getD 4 0
        · left; rw [if_pos c2]; exact ⟨by decide, rfl, rfl⟩
        · rw [if_neg c2]
          rcases tkS_range (g := tkT f) (tkT_range f) (byB_drop (rdN l 5).2.1 hb) ((rdN l 5).1.getD 4 0).toNat with ⟨he, _⟩ | ⟨he, k0, k1, _⟩
          · left; rw [if_pos he]; exact ⟨he, rfl, rfl⟩
          · right
            rw [if_neg (not_not_intro he)]
            rw [List.length_drop] at k1
            refine ⟨rfl, ?_, by simp only; omega⟩
            simp only [sizeT]; omega
end Ex
/-- What the reference's Take answers. -/
def TakeRPost (f : Nat) (l : List Int) (w : World) (e : Ending) (w' : World) : Prop := ∃ d cs, e = .returned (.tuple #[.agg cs, .int .i64 ((tkT f l).2.1 : Nat), .int .i64 (tkT f l).2.2]) ∧ Reads w'.heap.size w' d cs (tkT f l).1 ∧ Below w.heap.size w w'
set_option linter.unusedSimpArgs false in
set_option maxRecDepth 100000 in
set_option maxHeartbeats 2000000 in
theorem effectBytes_walk {w : World} (S : EffSaid w)
    (T : ∀ (A : Option Addr) (n c : Nat) (l : List Int) (w : World) (B : Nat), Nums .u8 w B A n l → byB l → n ≤ c → n ≤ 2000 → B ≤ w.heap.size → Calls Try.prog 18 #[.slice A n c, .int .i64 1] w (TakeRPost 8 l w))
    (d : Nat) (t : ET) (cs : Array Value) (A2 : Option Addr) (n2 c2 : Nat) (lb : List Int) (hr : Reads w.heap.size w d cs t) (hN : Nums .u8 w w.heap.size A2 n2 lb) (hnc : n2 ≤ c2) (hby : byB lb) :
    Calls Try.prog 4 #[.agg cs, .slice A2 n2 c2] w fun e w' => e = .returned (.bool true) ∧ Below w.heap.size w w' := by
  have hsx : (Try.prog.info? 24).map (·.size) = some cs.size := by rw [hr.size]; exact size5
  go_enter Try.func4, Try.ntmps4
  go_upto_region 1 with fail
  obtain ⟨w1, hw1⟩ : ∃ w1, w1 = w.alloc (.cells cs 24) := ⟨_, rfl⟩
  have HE := Lib.hid (show EvAt w1 w.heap.size cs by rw [hw1]; exact EvAt.new _ _)
  have hb1 : Below w.heap.size w w1 := by rw [hw1]; exact (Below.refl _ _).alloc (Nat.le_refl _) _
  rw [← hw1]
  clear hw1
  go_wp2_with fail
  refine (effAlive S w1 hb1).mono ?_
  rintro e w2 ⟨rfl, hb2⟩
  have hE2 := HE.out.keep hb2
  have hbw2 := keepB hb2 hb1
  go_wp2_with (refine wpList_load_row rfl 24 (.tmp 2) rfl w.heap.size rfl 24 _ (0, 0) _ hE2 Try.underlying24 rfl hsx ?_)
  refine (large_any d t cs w2 (hr.grow hbw2)).mono ?_
  rintro e w3 ⟨B, hB, rfl, hb3⟩
  have hE3 := hE2.keep hb3
  have hbw3 := keepB hb3 hbw2
  clear hE2 hb1 hb2 hb3 hbw2 HE
  cases B with
  | true =>
    clear hB
    go_wp2_with fail
    go_ret
    exact ⟨rfl, hbw3⟩
  | false =>
    obtain ⟨hs, _⟩ := hB rfl
    clear hB
    by_cases hn : 2000 < n2
    · have f1 : decide ((2000 : Int) < (n2 : Int)) = true := by simp; omega
      go_wp2_with fail
      go_ret
      exact ⟨rfl, hbw3⟩
    · have f1 : decide ((2000 : Int) < (n2 : Int)) = false := by simp; omega
      have HN := Lib.hid hN
      have HBy := Lib.hid hby
      have hlbn := hN.len
      have HRg := Lib.hid (tkT_range 8 lb hby)
      clear hN hby
      go_upto_region 5 with fail
      go_wp2_with fail
      refine (S.take A2 n2 c2 lb w3 _ (HN.out.belowL hbw3 (Nat.le_refl _)) HBy.out hnc (by omega) hbw3.size hbw3).mono ?_
      rintro e w4 ⟨d4, cs4, A4, n4, c4, rfl, hr4, hN4, _, hb4⟩
      have hE4 := hE3.keep hb4
      have hbw4 := keepB hb4 hbw3
      have hsx4 : (Try.prog.info? 24).map (·.size) = some cs4.size := by rw [hr4.size]; exact size5
      have h14 := hr4.one
      have hs4 := hr4.size
      have hnew : (w4.alloc (.cells zeroE 24)).heap[w4.heap.size]? = some (.cells zeroE 24 (0, 0)) := heap_alloc_new _ _
      clear hE3 hb4 hbw3
      go_upto_region 6 with (refine wpList_store_row rfl 24 (.tmp 5) (.tmp 23) rfl w4.heap.size _ rfl rfl 24 zeroE hnew hsx4 (by rw [hs4]; rfl) h14 ?_)
      obtain ⟨w5, hw5, hX5, hb5⟩ := ev_box w4 (xs := cs4)
      rw [← hw5]
      clear hw5 hnew
      have hE5 := hE4.keep hb5
      have hbw5 := keepB hb5 hbw4
      have hr5 := hr4.grow hb5
      have hN5 := hN4.below hb5
      have hs45 := hb5.size
      clear hE4 hb5 hr4 hN4 hbw4 h14 hs4
      go_wp2_with fail
      refine (T A2 n2 c2 lb w5 _ (HN.out.belowL hbw5 (Nat.le_refl _)) HBy.out hnc (by omega) hbw5.size).mono ?_
      rintro e w6 ⟨d6, cs6, rfl, hr6, hb6⟩
      have hE6 := hE5.keep hb6
      have hX6 := hX5.keep hb6
      have hbw6 := keepB hb6 hbw5
      have hr56 := hr5.grow hb6
      have hN6 := hN5.belowL hb6 hs45
      have hs56 := hb6.size
      have hsx6 : (Try.prog.info? 24).map (·.size) = some cs6.size := by rw [hr6.size]; exact size5
      have h16 := hr6.one
      have hs6 := hr6.size
      have hnew : (w6.alloc (.cells zeroE 24)).heap[w6.heap.size]? = some (.cells zeroE 24 (0, 0)) := heap_alloc_new _ _
      clear hE5 hX5 hb6 hr5 hN5 hbw5
      go_upto_region 7 with (refine wpList_store_row rfl 24 (.tmp 8) (.tmp 29) rfl w6.heap.size _ rfl rfl 24 zeroE hnew hsx6 (by rw [hs6]; rfl) h16 ?_)
      obtain ⟨w7, hw7, hY7, hb7⟩ := ev_box w6 (xs := cs6)
      rw [← hw7]
      clear hw7 hnew
      have HE7 := Lib.hid (hE6.keep hb7)
      have HX7 := Lib.hid (hX6.keep hb7)
      have HY7 := Lib.hid hY7
      have hbw7 := keepB hb7 hbw6
      have HR7 := Lib.hid (hr56.grow hb7)
      have HR6 := Lib.hid (hr6.grow hb7)
      have HN7 := Lib.hid (hN6.belowL hb7 (by omega))
      have HSb := Lib.hid (fun W (hW : Below w7.heap.size w7 W) => S.bytes d t cs W (hr.grow (keepB hW hbw7)) hs (keepB hW hbw7))
      have HRb := Lib.hid (fun W (hW : Below w7.heap.size w7 W) => bytesRef6_any d t cs W (hr.grow (keepB hW hbw7)) (by omega))
      have hsz : sizeT (tkT 8 lb).1 ≤ 1000000 := by
        rcases HRg.out with ⟨_, h, _⟩ | ⟨_, h, h2⟩
        · rw [h]; simp [zT, sizeT, sizeL]
        · omega
      have HEf := Lib.hid (fun W (hW : Below w7.heap.size w7 W) => effects_any d4 _ _ cs4 cs6 d6 W (HR7.out.grow hW) (HR6.out.grow hW) hsz)
      rw [sameT_refl] at HEf
      obtain ⟨bad, hbad⟩ : ∃ x, x = (tkT 8 lb).2.2 := ⟨_, rfl⟩
      obtain ⟨kk, hkk⟩ : ∃ x, x = (tkT 8 lb).2.1 := ⟨_, rfl⟩
      rw [← hbad, ← hkk] at HN7 HRg
      rw [← hbad, ← hkk]
      clear hbad hkk hE6 hX6 hY7 hb7 hr56 hr6 hN6 hbw6 hr hs hsz h16 hs6
      refine region_below (by kernel_rfl) (fun hHeld => ?_)
      refine wpAnyH_take (i := 0) (v := .agg cs) rfl (by kernel_rfl) (by kernel_rfl) (by kernel_rfl) (fun _ _ _ h => h) (yieldsEv (by rfl) (.tmp 2) rfl w.heap.size rfl cs (fun W hW => HE7.out.keep hW) hsx) hHeld ?_
      simp only [Act.put, List.getElem_toArray, List.getElem_cons_zero, List.getElem_cons_succ, List.setIfInBounds_toArray, List.set_cons_zero, List.set_cons_succ]
      refine wpAnyH_take (i := 2) (v := .agg cs) rfl (by kernel_rfl) (by kernel_rfl) (by kernel_rfl) (fun _ _ _ h => h) (yieldsEv (by rfl) (.tmp 2) rfl w.heap.size rfl cs (fun W hW => HE7.out.keep hW) hsx) hHeld ?_
      simp only [Act.put, List.getElem_toArray, List.getElem_cons_zero, List.getElem_cons_succ, List.setIfInBounds_toArray, List.set_cons_zero, List.set_cons_succ]
      refine wpAnyH_ready (rs := [1]) (by kernel_rfl) (by simp) ?_
      refine AllReadyH.cons rfl (fun K hK => ?_) AllReadyH.nil
      simp only [List.getElem_toArray, List.getElem_cons_zero, List.getElem_cons_succ]
      go_simp
      refine (HSb.out _ hHeld).mono ?_
      rintro e w8 ⟨A8, m8, c8, rfl, hown8, hb8⟩
      go_wp2_with fail
      have hB8 := keepB hb8 hHeld
      refine hK.out _ _ hB8 (fun _ => ?_)
      clear hK K
      try simp only [Act.put, List.setIfInBounds_toArray, List.set_cons_zero, List.set_cons_succ]
      refine anyH_rebase hB8 (fun hHeld => ?_)
      have HO8 := Lib.hid hown8.nums
      clear hown8 hb8
      refine wpAnyH_ready (rs := [3]) (by kernel_rfl) (by simp) ?_
      refine AllReadyH.cons rfl (fun K hK => ?_) AllReadyH.nil
      simp only [List.getElem_toArray, List.getElem_cons_zero, List.getElem_cons_succ]
      go_simp
      refine (HRb.out _ hB8).mono ?_
      rintro e w9 ⟨A9, m9, c9, rfl, hown9, hb9⟩
      have HO9 := Lib.hid hown9.nums
      have HO89 := Lib.hid (HO8.out.below hb9)
      go_wp2_with fail
      have hB9 := keepB hb9 hHeld
      refine hK.out _ _ hB9 (fun _ => ?_)
      clear hK K
      try simp only [Act.put, List.setIfInBounds_toArray, List.set_cons_zero, List.set_cons_succ]
      refine anyH_rebase hB9 (fun hHeld => ?_)
      have hB97 := keepB hB9 hB8
      clear hown9 hb9
      refine wpAnyH_ready (rs := [4]) (by kernel_rfl) (by simp) ?_
      refine AllReadyH.cons rfl (fun K hK => ?_) AllReadyH.nil
      simp only [List.getElem_toArray, List.getElem_cons_zero, List.getElem_cons_succ]
      go_simp
      refine (numBytes_same A8 A9 m8 c8 m9 c9 (btT t) _ _ _ HO89.out HO9.out).mono ?_
      rintro e w10 ⟨rfl, rfl⟩
      go_wp2_with fail
      have hB10 := keepB (Below.refl _ _) hHeld
      refine hK.out _ _ hB10 (fun _ => ?_)
      clear hK K
      try simp only [Act.put, List.setIfInBounds_toArray, List.set_cons_zero, List.set_cons_succ]
      refine anyH_rebase hB10 (fun hHeld => ?_)
      refine wpAnyH_take (i := 5) (v := ?_) rfl (by kernel_rfl) (by kernel_rfl) (by kernel_rfl) (fun _ _ _ h => h) (Or.inl ⟨by rfl, ?_⟩) hHeld ?_
      rotate_left
      · (intro w hSw; go_simp; (try with_reducible rfl))
      simp only [Act.put, List.getElem_toArray, List.getElem_cons_zero, List.getElem_cons_succ, List.setIfInBounds_toArray, List.set_cons_zero, List.set_cons_succ]
      refine wpAnyH_take (i := 6) (v := ?_) rfl (by kernel_rfl) (by kernel_rfl) (by kernel_rfl) (fun _ _ _ h => h) (Or.inl ⟨by rfl, ?_⟩) hHeld ?_
      rotate_left
      · (intro w hSw; go_simp; (try with_reducible rfl))
      simp only [Act.put, List.getElem_toArray, List.getElem_cons_zero, List.getElem_cons_succ, List.setIfInBounds_toArray, List.set_cons_zero, List.set_cons_succ]
      refine wpAnyH_take (i := 7) (v := ?_) rfl (by kernel_rfl) (by kernel_rfl) (by kernel_rfl) (fun _ _ _ h => h) (Or.inl ⟨by rfl, ?_⟩) hHeld ?_
      rotate_left
      · (intro w hSw; go_simp; (try with_reducible rfl))
      simp only [Act.put, List.getElem_toArray, List.getElem_cons_zero, List.getElem_cons_succ, List.setIfInBounds_toArray, List.set_cons_zero, List.set_cons_succ]
      refine wpAnyH_take (i := 9) (v := ?_) rfl (by kernel_rfl) (by kernel_rfl) (by kernel_rfl) (fun _ _ _ h => h) (Or.inl ⟨by rfl, ?_⟩) hHeld ?_
      rotate_left
      · (intro w hSw; go_simp; (try with_reducible rfl))
      simp only [Act.put, List.getElem_toArray, List.getElem_cons_zero, List.getElem_cons_succ, List.setIfInBounds_toArray, List.set_cons_zero, List.set_cons_succ]
      refine wpAnyH_ready (rs := [8]) (by kernel_rfl) (by simp) ?_
      refine AllReadyH.cons rfl (fun K hK => ?_) AllReadyH.nil
      simp only [List.getElem_toArray, List.getElem_cons_zero, List.getElem_cons_succ]
      go_simp
      refine (num_by bad _).mono ?_
      rintro e w10 ⟨rfl, rfl⟩
      go_wp2_with fail
      have hB11 := keepB (Below.refl _ _) hHeld
      refine hK.out _ _ hB11 (fun _ => ?_)
      clear hK K
      try simp only [Act.put, List.setIfInBounds_toArray, List.set_cons_zero, List.set_cons_succ]
      refine anyH_rebase hB11 (fun hHeld => ?_)
      refine wpAnyH_take (i := 10) (v := ?_) rfl (by kernel_rfl) (by kernel_rfl) (by kernel_rfl) (fun _ _ _ h => h) (Or.inl ⟨by rfl, ?_⟩) hHeld ?_
      rotate_left
      · (intro w hSw; go_simp; (try with_reducible rfl))
      simp only [Act.put, List.getElem_toArray, List.getElem_cons_zero, List.getElem_cons_succ, List.setIfInBounds_toArray, List.set_cons_zero, List.set_cons_succ]
      refine wpAnyH_take (i := 11) (v := ?_) rfl (by kernel_rfl) (by kernel_rfl) (by kernel_rfl) (fun _ _ _ h => h) (Or.inl ⟨by rfl, ?_⟩) hHeld ?_
      rotate_left
      · (intro w hSw; go_simp; (try with_reducible rfl))
      simp only [Act.put, List.getElem_toArray, List.getElem_cons_zero, List.getElem_cons_succ, List.setIfInBounds_toArray, List.set_cons_zero, List.set_cons_succ]
      refine wpAnyH_take (i := 12) (v := ?_) rfl (by kernel_rfl) (by kernel_rfl) (by kernel_rfl) (fun _ _ _ h => h) (Or.inl ⟨by rfl, ?_⟩) hHeld ?_
      rotate_left
      · (intro w hSw; go_simp; (try with_reducible rfl))
      simp only [Act.put, List.getElem_toArray, List.getElem_cons_zero, List.getElem_cons_succ, List.setIfInBounds_toArray, List.set_cons_zero, List.set_cons_succ]
      have HX9 := Lib.hid (HX7.out.keep hB97)
      have HY9 := Lib.hid (HY7.out.keep hB97)
      refine wpAnyH_take (i := 13) (v := .agg cs4) rfl (by kernel_rfl) (by kernel_rfl) (by kernel_rfl) (fun _ _ _ h => h) (yieldsEv (by rfl) (.tmp 5) rfl w4.heap.size rfl cs4 (fun W hW => HX9.out.keep hW) hsx4) hHeld ?_
      simp only [Act.put, List.getElem_toArray, List.getElem_cons_zero, List.getElem_cons_succ, List.setIfInBounds_toArray, List.set_cons_zero, List.set_cons_succ]
      refine wpAnyH_take (i := 14) (v := .agg cs6) rfl (by kernel_rfl) (by kernel_rfl) (by kernel_rfl) (fun _ _ _ h => h) (yieldsEv (by rfl) (.tmp 8) rfl w6.heap.size rfl cs6 (fun W hW => HY9.out.keep hW) hsx6) hHeld ?_
      simp only [Act.put, List.getElem_toArray, List.getElem_cons_zero, List.getElem_cons_succ, List.setIfInBounds_toArray, List.set_cons_zero, List.set_cons_succ]
      refine wpAnyH_ready (rs := [15]) (by kernel_rfl) (by simp) ?_
      refine AllReadyH.cons rfl (fun K hK => ?_) AllReadyH.nil
      simp only [List.getElem_toArray, List.getElem_cons_zero, List.getElem_cons_succ]
      go_simp
      refine (HEf.out _ hB97).mono ?_
      rintro e w12 ⟨rfl, hb12⟩
      go_wp2_with fail
      have hB12 := keepB hb12 hHeld
      refine hK.out _ _ hB12 (fun _ => ?_)
      clear hK K
      try simp only [Act.put, List.setIfInBounds_toArray, List.set_cons_zero, List.set_cons_succ]
      refine anyH_rebase hB12 (fun hHeld => ?_)
      have hB127 := keepB hB12 hB97
      clear hb12
      refine wpAnyH_take (i := 16) (v := ?_) rfl (by kernel_rfl) (by kernel_rfl) (by kernel_rfl) (fun _ _ _ h => h) (Or.inl ⟨by rfl, ?_⟩) hHeld ?_
      rotate_left
      · (intro w hSw; go_simp; (try with_reducible rfl))
      simp only [Act.put, List.getElem_toArray, List.getElem_cons_zero, List.getElem_cons_succ, List.setIfInBounds_toArray, List.set_cons_zero, List.set_cons_succ]
      refine wpAnyH_take (i := 17) (v := ?_) rfl (by kernel_rfl) (by kernel_rfl) (by kernel_rfl) (fun _ _ _ h => h) (Or.inl ⟨by rfl, ?_⟩) hHeld ?_
      rotate_left
      · (intro w hSw; go_simp; (try with_reducible rfl))
      simp only [Act.put, List.getElem_toArray, List.getElem_cons_zero, List.getElem_cons_succ, List.setIfInBounds_toArray, List.set_cons_zero, List.set_cons_succ]
      refine wpAnyH_done (by kernel_rfl) ?_ _
      have hbw12 := keepB hB127 hbw7
      have hN12 := HN7.out.belowL hB127 (by have := HX7.out.lt; omega)
      clear hHeld hB8 hB9 hB10 hB11 hB12 hB97 hB127 HSb HRb HEf
      by_cases hb0 : bad = 0
      · subst hb0
        rcases HRg.out with ⟨h, _⟩ | ⟨_, _, hkl⟩
        · exact absurd rfl h
        rw [if_pos rfl] at hN12
        obtain ⟨A13, hsl, hN13⟩ := cut_from (P := Try.prog) (HN.out.belowL hbw12 (Nat.le_refl _)) hnc (i := kk) (by omega) 37 (by kernel_rfl) (fun _ => by kernel_rfl)
        go_upto_region 9 with fail
        go_wp2_with fail
        refine (numBytes_same A4 A13 n4 c4 _ _ _ w12 _ _ hN12 hN13).mono ?_
        rintro e w13 ⟨rfl, rfl⟩
        go_wp2_with fail
        go_ret
        exact ⟨rfl, hbw12⟩
      · have e1 : (bad != 0) = true := by simpa using hb0
        rw [if_neg hb0] at hN12
        have hz : n4 = 0 := by have := hN12.len; simpa using this.symm
        subst hz
        clear hb0
        go_upto_region 9 with fail
        go_wp2_with fail
        go_ret
        exact ⟨rfl, hbw12⟩
end Go.Proofs.Ytjijnapphbeahaa
