/- Layer 4: the reference's figures. -/
import Derived.Test.YtammchaihangnaaDoorManaA
import Derived.Laws.BitsLemmas
namespace Go.Proofs.YtammchaihangnaaDoor
open Go.RowKit Mx
def digV (n : Nat) : Value := .string ⟨(Lib.decDigits n).toArray⟩
/-- 'string([]byte{x})'. -/
theorem str_one {W w W' : World} {x : Nat} {b : UInt8} (hb : b = UInt8.ofNat (48 + x)) (hw : w = W.alloc (.cells #[.int .u8 ((48 : Int) + x)] 5)) (hW : Below w.heap.size w W') :
    (convert 51 9 (.slice (some ⟨W.heap.size, 0, none⟩) 1 1)).run Tryd.prog W' = .ok (.string ⟨#[b]⟩) W' := by
  subst hw hb
  rw [run_string_of ((Nums.one W .u8 ((48 : Int) + x) 5).below (hW.mono (by simp))) Tryd.underlying51 Tryd.underlying5 Tryd.underlying9]
  have e : ((48 : Int) + x).toNat = 48 + x := by omega
  simp only [strOfNums, List.map_cons, List.map_nil, e]
theorem fig_small {n : Nat} (h : n < 10) (w : World) : Calls Tryd.prog 21 #[.int .i64 n] w fun e w' => e = .returned (digV n) ∧ Below w.heap.size w w' := by
  obtain ⟨b, hb⟩ : ∃ b, b = UInt8.ofNat (48 + n) := ⟨_, rfl⟩
  have hv : digV n = .string ⟨#[b]⟩ := by unfold digV; rw [Lib.decDigits, dif_pos h, hb]
  have hs := fun w' hw => str_one (W := w) (w := w') hb hw (Below.refl _ _)
  rw [hv]
  clear hv hb
  go_enter Tryd.func21, Tryd.ntmps21
  go_upto_region 2 with fail
  have h1 := hs _ rfl
  clear hs
  go_wp2_with fail
  go_ret
  exact ⟨rfl, (Below.refl _ _).alloc (Nat.le_refl _) _⟩
theorem below_newd {w w' : World} {o : Obj} (hW : Below w.heap.size w w') : Below w.heap.size w (w'.alloc o) := hW.alloc hW.size _
set_option linter.unusedSimpArgs false
theorem fig_any : ∀ (n : Nat), n ≤ 1000 → ∀ w, Calls Tryd.prog 21 #[.int .i64 n] w fun e w' => e = .returned (digV n) ∧ Below w.heap.size w w' := by
  intro n
  induction n using Nat.strongRecOn with
  | _ n ih =>
    intro hn w
    by_cases h : n < 10
    · exact fig_small h w
    · have hq := ih (n / 10) (by omega) (by omega)
      have e1 : ((n : Nat) : Int) / 10 = ((n / 10 : Nat) : Int) := by omega
      have e2 : ((n : Nat) : Int) % 10 = ((n % 10 : Nat) : Int) := by omega
      have m1 : n % 10 < 10 := by omega
      obtain ⟨q, hq1⟩ : ∃ q, n / 10 = q := ⟨_, rfl⟩
      obtain ⟨m, hm1⟩ : ∃ m, n % 10 = m := ⟨_, rfl⟩
      have hv : digV n = .string ⟨(Lib.decDigits (n / 10)).toArray ++ #[UInt8.ofNat (48 + n % 10)]⟩ := by
        unfold digV; rw [Lib.decDigits, dif_neg h]; simp
      rw [hv]
      rw [hq1] at hq e1 ⊢
      rw [hm1] at e2 m1 ⊢
      clear hv ih hq1 hm1
      obtain ⟨b, hb⟩ : ∃ b, b = UInt8.ofNat (48 + m) := ⟨_, rfl⟩
      obtain ⟨s1, hs1⟩ : ∃ s1 : ByteArray, s1 = ⟨(Lib.decDigits q).toArray⟩ := ⟨_, rfl⟩
      obtain ⟨s2, hs2⟩ : ∃ s2 : ByteArray, s2 = ⟨#[b]⟩ := ⟨_, rfl⟩
      obtain ⟨s3, hs3⟩ : ∃ s3 : ByteArray, s3 = s1 ++ s2 := ⟨_, rfl⟩
      have hq' : digV q = .string s1 := by rw [hs1]; rfl
      have hcat : ¬ 9223372036854775807 < s1.size + s2.size := by
        have h1 := dig_len q
        have h2 : s1.size = (Lib.decDigits q).length := by rw [hs1]; rfl
        have h3 : s2.size = 1 := by rw [hs2]; rfl
        omega
      rw [hq'] at hq
      have ht : (⟨(Lib.decDigits q).toArray ++ #[UInt8.ofNat (48 + m)]⟩ : ByteArray) = s3 := by rw [hs3, hs1, hs2, hb, mk_append]
      rw [ht]
      have HB := Lib.hid hb
      have HS2 := Lib.hid hs2
      have HS3 := Lib.hid hs3
      clear hb hs1 hs2 hs3 hq' ht
      have f1 : IntKind.i64.wrap ((q : Nat) : Int) = (q : Int) := i64_in (by omega) (by omega)
      have f2 : ((n : Nat) : Int).tmod 10 = (m : Int) := by rw [Int.tmod_eq_emod_of_nonneg (by omega)]; exact e2
      have f3 : IntKind.i64.wrap ((48 : Int) + (m : Int)) = (48 : Int) + (m : Int) := i64_in (by omega) (by omega)
      have f4 : IntKind.u8.wrap ((48 : Int) + (m : Int)) = (48 : Int) + (m : Int) := by rw [IntKind.wrap_u8]; omega
      have HQ := Lib.hid hq
      clear e2 hq
      go_enter Tryd.func21, Tryd.ntmps21
      go_upto_region 3 with fail
      refine region_below (by kernel_rfl) (fun hHeld => ?_)
      refine wpAnyH_take (i := 0) (v := ?_) rfl (by kernel_rfl) (by kernel_rfl) (by kernel_rfl) (fun _ _ _ h => h) (Or.inl ⟨by rfl, ?_⟩) hHeld ?_
      rotate_left
      · (intro w hSw; go_simp; (try with_reducible rfl))
      simp only [Act.put, List.getElem_toArray, List.getElem_cons_zero, List.getElem_cons_succ, List.setIfInBounds_toArray, List.set_cons_zero, List.set_cons_succ]
      refine wpAnyH_take (i := 1) (v := ?_) rfl (by kernel_rfl) (by kernel_rfl) (by kernel_rfl) (fun _ _ _ h => h) (Or.inl ⟨by rfl, ?_⟩) hHeld ?_
      rotate_left
      · (intro w hSw; go_simp; (try with_reducible rfl))
      simp only [Act.put, List.getElem_toArray, List.getElem_cons_zero, List.getElem_cons_succ, List.setIfInBounds_toArray, List.set_cons_zero, List.set_cons_succ]
      refine wpAnyH_take (i := 3) (v := ?_) rfl (by kernel_rfl) (by kernel_rfl) (by kernel_rfl) (fun _ _ _ h => h) (Or.inl ⟨by rfl, ?_⟩) hHeld ?_
      rotate_left
      · (intro w hSw; go_simp; (try with_reducible rfl))
      simp only [Act.put, List.getElem_toArray, List.getElem_cons_zero, List.getElem_cons_succ, List.setIfInBounds_toArray, List.set_cons_zero, List.set_cons_succ]
      refine wpAnyH_take (i := 4) (v := ?_) rfl (by kernel_rfl) (by kernel_rfl) (by kernel_rfl) (fun _ _ _ h => h) (Or.inl ⟨by rfl, ?_⟩) hHeld ?_
      rotate_left
      · (intro w hSw; go_simp; (try with_reducible rfl))
      simp only [Act.put, List.getElem_toArray, List.getElem_cons_zero, List.getElem_cons_succ, List.setIfInBounds_toArray, List.set_cons_zero, List.set_cons_succ]
      refine wpAnyH_take (i := 5) (v := ?_) rfl (by kernel_rfl) (by kernel_rfl) (by kernel_rfl) (fun _ _ _ h => h) (Or.inl ⟨by rfl, ?_⟩) hHeld ?_
      rotate_left
      · (intro w hSw; go_simp; (try with_reducible rfl))
      simp only [Act.put, List.getElem_toArray, List.getElem_cons_zero, List.getElem_cons_succ, List.setIfInBounds_toArray, List.set_cons_zero, List.set_cons_succ]
      refine wpAnyH_take (i := 6) (v := ?_) rfl (by kernel_rfl) (by kernel_rfl) (by kernel_rfl) (fun _ _ _ h => h) (Or.inl ⟨by rfl, ?_⟩) hHeld ?_
      rotate_left
      · (intro w hSw; go_simp; (try with_reducible rfl))
      simp only [Act.put, List.getElem_toArray, List.getElem_cons_zero, List.getElem_cons_succ, List.setIfInBounds_toArray, List.set_cons_zero, List.set_cons_succ]
      refine wpAnyH_ready (rs := [2, 7]) (by kernel_rfl) (by simp) ?_
      refine AllReadyH.cons rfl (fun K hK => ?_) (AllReadyH.cons rfl (fun K hK => ?_) AllReadyH.nil)
      all_goals simp only [List.getElem_toArray, List.getElem_cons_zero, List.getElem_cons_succ]
      all_goals go_simp
      · refine (HQ.out _).mono ?_
        rintro e w7 ⟨rfl, hb7⟩
        go_wp2_with fail
        have hB7 := keepB hb7 hHeld
        refine hK.out _ _ hB7 (fun _ => ?_)
        clear hK K
        try simp only [Act.put, List.setIfInBounds_toArray, List.set_cons_zero, List.set_cons_succ]
        refine anyH_rebase hB7 (fun hHeld => ?_)
        refine wpAnyH_ready (rs := [7]) (by kernel_rfl) (by simp) ?_
        refine AllReadyH.cons rfl (fun K hK => ?_) AllReadyH.nil
        simp only [List.getElem_toArray, List.getElem_cons_zero, List.getElem_cons_succ]
        go_simp
        obtain ⟨w8, hw8⟩ : ∃ w8, w8 = w7.alloc (.cells #[.int .u8 ((48 : Int) + m)] 5) := ⟨_, rfl⟩
        have hS8 := fun W hW => str_one (W := w7) (w := w8) (W' := W) HB.out hw8 hW
        rw [← HS2.out] at hS8
        have hB8 : Below w7.heap.size w7 w8 := by rw [hw8]; exact below_newd (Below.refl _ _)
        rw [← hw8]
        clear hw8
        refine hK.out _ _ hB8 (fun _ => ?_)
        clear hK K
        try simp only [Act.put, List.setIfInBounds_toArray, List.set_cons_zero, List.set_cons_succ]
        refine anyH_rebase hB8 (fun hHeld => ?_)
        refine wpAnyH_take (i := 8) (v := ?_) rfl (by kernel_rfl) (by kernel_rfl) (by kernel_rfl) (fun _ _ _ h => h) (Or.inl ⟨by rfl, ?_⟩) hHeld ?_
        rotate_left
        · (intro w hSw; go_simp; (try with_reducible rfl))
        simp only [Act.put, List.getElem_toArray, List.getElem_cons_zero, List.getElem_cons_succ, List.setIfInBounds_toArray, List.set_cons_zero, List.set_cons_succ]
        refine wpAnyH_take (i := 9) (v := ?_) rfl (by kernel_rfl) (by kernel_rfl) (by kernel_rfl) (fun _ _ _ h => h) (Or.inl ⟨by rfl, ?_⟩) hHeld ?_
        rotate_left
        · (intro w hSw; go_simp; (try with_reducible rfl))
        simp only [Act.put, List.getElem_toArray, List.getElem_cons_zero, List.getElem_cons_succ, List.setIfInBounds_toArray, List.set_cons_zero, List.set_cons_succ]
        refine wpAnyH_take (i := 10) (v := ?_) rfl (by kernel_rfl) (by kernel_rfl) (by kernel_rfl) (fun _ _ _ h => h) (Or.inl ⟨by rfl, ?_⟩) hHeld ?_
        rotate_left
        · (intro w hSw; go_simp; (try with_reducible rfl))
        simp only [Act.put, List.getElem_toArray, List.getElem_cons_zero, List.getElem_cons_succ, List.setIfInBounds_toArray, List.set_cons_zero, List.set_cons_succ]
        refine wpAnyH_done (by kernel_rfl) ?_ _
        go_wp2_with fail
        go_ret
        exact ⟨by rw [HS3.out]; rfl, keepB hB8 hB7⟩
      · obtain ⟨w8, hw8⟩ : ∃ w8, w8 = (w.alloc (.cells #[.int .u8 ((48 : Int) + m)] 5)).drew := ⟨_, rfl⟩
        have hS8 := fun W (hW : Below w8.heap.size w8 W) => str_one (W := w) (W' := W) HB.out rfl (keepB hW (by rw [hw8]; exact (Below.refl _ _).drew))
        rw [← HS2.out] at hS8
        have hB8 : Below w.heap.size w w8 := by rw [hw8]; exact (below_newd (Below.refl _ _)).drew
        rw [← hw8]
        clear hw8
        refine hK.out _ _ hB8 (fun _ => ?_)
        clear hK K
        try simp only [Act.put, List.setIfInBounds_toArray, List.set_cons_zero, List.set_cons_succ]
        refine anyH_rebase hB8 (fun hHeld => ?_)
        refine wpAnyH_take (i := 8) (v := ?_) rfl (by kernel_rfl) (by kernel_rfl) (by kernel_rfl) (fun _ _ _ h => h) (Or.inl ⟨by rfl, ?_⟩) hHeld ?_
        rotate_left
        · (intro w hSw; go_simp; (try with_reducible rfl))
        simp only [Act.put, List.getElem_toArray, List.getElem_cons_zero, List.getElem_cons_succ, List.setIfInBounds_toArray, List.set_cons_zero, List.set_cons_succ]
        refine wpAnyH_ready (rs := [2]) (by kernel_rfl) (by simp) ?_
        refine AllReadyH.cons rfl (fun K hK => ?_) AllReadyH.nil
        simp only [List.getElem_toArray, List.getElem_cons_zero, List.getElem_cons_succ]
        go_simp
        refine (HQ.out _).mono ?_
        rintro e w7 ⟨rfl, hb7⟩
        go_wp2_with fail
        have hB7 := keepB hb7 hHeld
        refine hK.out _ _ hB7 (fun _ => ?_)
        clear hK K
        try simp only [Act.put, List.setIfInBounds_toArray, List.set_cons_zero, List.set_cons_succ]
        refine anyH_rebase hB7 (fun hHeld => ?_)
        refine wpAnyH_take (i := 9) (v := ?_) rfl (by kernel_rfl) (by kernel_rfl) (by kernel_rfl) (fun _ _ _ h => h) (Or.inl ⟨by rfl, ?_⟩) hHeld ?_
        rotate_left
        · (intro w hSw; go_simp; (try with_reducible rfl))
        simp only [Act.put, List.getElem_toArray, List.getElem_cons_zero, List.getElem_cons_succ, List.setIfInBounds_toArray, List.set_cons_zero, List.set_cons_succ]
        refine wpAnyH_take (i := 10) (v := ?_) rfl (by kernel_rfl) (by kernel_rfl) (by kernel_rfl) (fun _ _ _ h => h) (Or.inl ⟨by rfl, ?_⟩) hHeld ?_
        rotate_left
        · (intro w hSw; go_simp; (try with_reducible rfl))
        simp only [Act.put, List.getElem_toArray, List.getElem_cons_zero, List.getElem_cons_succ, List.setIfInBounds_toArray, List.set_cons_zero, List.set_cons_succ]
        refine wpAnyH_done (by kernel_rfl) ?_ _
        go_wp2_with fail
        go_ret
        exact ⟨by rw [HS3.out]; rfl, keepB hB7 hB8⟩
end Go.Proofs.YtammchaihangnaaDoor
