/- Layer 16: what the landed rand's calls answer. -/
import Derived.Test.YtllamlmeklalaaaRnOrd
import Derived.Test.YtllamlmeklalaaaReg
import Derived.Deep.DeepCutAuto
import Derived.Deep.OwnRows
import Derived.Deep.CutBlock
namespace Go.Proofs.Ytllamlmeklalaaa
open Go.RowKit
set_option maxRecDepth 100000
set_option maxHeartbeats 1000000 in
theorem belowC_any (d n : Int) (w : World) (hn : 1 ≤ n) (hm : N64 n) : Calls Try.prog 17 #[.int .i64 d, .int .i64 n] w fun en w' => en = .returned (.int .i64 (d % n)) ∧ w' = w := by
  have hng := tmod_neg d n (by omega)
  obtain ⟨t0, t1⟩ := tmod_rng d n (by omega)
  have hz0 : (n == 0) = false := by simp; omega
  have hz1 : (n == -1) = false := by simp; omega
  have HM := Lib.hid hng
  have hmx : n ≤ 9223372036854775807 := hm.2
  clear hng hm
  by_cases h6 : d.tmod n < 0
  · have d6 : decide (d.tmod n < 0) = true := by simp; omega
    go_enter Try.func17, Try.ntmps17
    go_wp2_with fail
    go_ret
    exact ⟨by rw [← HM.out, if_pos h6]; rfl, rfl⟩
  · have d6 : decide (d.tmod n < 0) = false := by simp; omega
    go_enter Try.func17, Try.ntmps17
    go_wp2_with fail
    go_ret
    exact ⟨by rw [← HM.out, if_neg (by omega)]; rfl, rfl⟩
set_option maxHeartbeats 1000000 in
theorem checkC_any (A : Option Addr) (n c : Nat) (l : List Int) (w : World) (B : Nat) (hN : Nums .i64 w B A n l) (hn : n ≤ 5000) :
    Calls Try.prog 13 #[.slice A n c] w fun en w' => en = .returned (errV (if 4096 < l.length then 19 else 0)) ∧ w' = w := by
  have hln := hN.len
  by_cases h1 : 4096 < n
  · have d1 : decide ((4096 : Int) < (n : Int)) = true := by simp; omega
    have HP := Lib.hid (show 4096 < l.length by omega)
    clear hln
    go_enter Try.func13, Try.ntmps13
    go_wp2_with fail
    go_ret
    exact ⟨rfl, rfl⟩
  · have d1 : decide ((4096 : Int) < (n : Int)) = false := by simp; omega
    have HP := Lib.hid (show ¬ 4096 < l.length by omega)
    clear hln
    go_enter Try.func13, Try.ntmps13
    go_wp2_with fail
    go_ret
    exact ⟨rfl, rfl⟩
set_option maxHeartbeats 1000000 in
theorem leftC_any (A : Option Addr) (n c : Nat) (l : List Int) (cur : Int) (w : World) (B : Nat) (hN : Nums .i64 w B A n l) (hn : n ≤ 5000) (hc : N64 cur) :
    Calls Try.prog 11 #[.slice A n c, .int .i64 cur] w fun en w' => en = .returned (.int .i64 (leftD l cur)) ∧ w' = w := by
  have hln := hN.len
  by_cases h1 : cur < 0
  · have d1 : decide (cur < 0) = true := by simp; omega
    have HP := Lib.hid (show leftD l cur = 0 from by unfold leftD; rw [if_pos (.inl h1)])
    clear hln
    go_enter Try.func11, Try.ntmps11
    go_wp2_with fail
    go_ret
    exact ⟨by rw [HP.out]; rfl, rfl⟩
  · have d1 : decide (cur < 0) = false := by simp; omega
    by_cases h2 : (n : Int) < cur
    · have d2 : decide ((n : Int) < cur) = true := by simp; omega
      have HP := Lib.hid (show leftD l cur = 0 from by unfold leftD; rw [if_pos (.inr (by omega))])
      clear hln
      go_enter Try.func11, Try.ntmps11
      go_wp2_with fail
      go_ret
      exact ⟨by rw [HP.out]; rfl, rfl⟩
    · have d2 : decide ((n : Int) < cur) = false := by simp; omega
      have HP := Lib.hid (show leftD l cur = (n : Int) - cur from by unfold leftD; split <;> omega)
      clear hln
      go_enter Try.func11, Try.ntmps11
      go_wp2_with fail
      go_ret
      exact ⟨by rw [HP.out]; rfl, rfl⟩
set_option maxHeartbeats 1000000 in
theorem needsC_any (m : Int) (w : World) (hm : N64 m) : Calls Try.prog 12 #[.int .i64 m] w fun en w' => en = .returned (.int .i64 (needD m)) ∧ w' = w := by
  have hb := hm
  unfold N64 at hb
  by_cases h1 : m < 1
  · have d1 : decide (m < 1) = true := by simp; omega
    have HP := Lib.hid (show needD m = 0 from by unfold needD; rw [if_pos h1])
    go_enter Try.func12, Try.ntmps12
    go_wp2_with fail
    go_ret
    exact ⟨by rw [HP.out]; rfl, rfl⟩
  · have d1 : decide (m < 1) = false := by simp; omega
    have HP := Lib.hid (show needD m = m - 1 from by unfold needD; rw [if_neg h1])
    go_enter Try.func12, Try.ntmps12
    go_wp2_with fail
    go_ret
    exact ⟨by rw [HP.out]; rfl, rfl⟩
theorem zeros_mk (n : Nat) : madeCells #[Value.int .i64 0] n = ((List.replicate n (0 : Int)).map (Value.int .i64)).toArray := by
  apply Array.ext
  · simp [madeCells]
  · intro i h1 h2; simp [madeCells, Nat.mod_one]
theorem make_intsR (n : Nat) (hn : n ≤ 100000) (W : World) : (Instr.makeSlice 22 (.int .i64 (n : Int)) (.int .i64 (n : Int))).run Try.prog W = .ok (.slice (some ⟨W.heap.size, 0, none⟩) n n) (W.alloc (.cells (madeCells #[Value.int .i64 0] n) 3)) :=
  run_make_row' 22 3 (.int .i64 0) 8 Try.underlying22 info_intS rfl .i64 .i64 n (by omega) (by omega) W
theorem IW.made (w : World) (n : Nat) (hn : n ≤ 100000) : IW w (some ⟨w.heap.size, 0, none⟩) n n (List.replicate n 0) (w.alloc (.cells (madeCells #[Value.int .i64 0] n) 3)) := by
  refine ⟨⟨by simp, by simp, .inr ⟨w.heap.size, n, madeCells #[Value.int .i64 0] n, rfl, Nat.le_refl _, heap_alloc_new _ _, by omega, by unfold maxLen; omega, by simp [madeCells], ?_⟩⟩, (Below.refl _ _).alloc (Nat.le_refl _) _⟩
  rw [zeros_mk]
  simp
theorem rise_step (n k : Nat) (h : k < n) : (upto k ++ List.replicate (n - k) 0).set k (k : Int) = upto (k + 1) ++ List.replicate (n - (k + 1)) 0 := by
  rw [show n - k = (n - (k + 1)) + 1 by omega, List.replicate_succ, List.set_append_right k _ (by rw [upto_len]; omega), upto_len, Nat.sub_self, upto_succ]
  simp
set_option maxHeartbeats 1000000 in
theorem risingC_any (n : Nat) (w : World) (hn : n ≤ 400) : Calls Try.prog 19 #[.int .i64 (n : Int)] w fun en w' => ∃ A, en = .returned (.slice A n n) ∧ IW w A n n (upto n) w' := by
  have hmk := make_intsR n (by omega) w
  have HV0 := Lib.hid (show IW w (some ⟨w.heap.size, 0, none⟩) n n (upto 0 ++ List.replicate (n - 0) 0) (w.alloc (.cells (madeCells #[Value.int .i64 0] n) 3)) from IW.made w n (by omega))
  go_enter Try.func19, Try.ntmps19
  go_upto_region 3 with fail
  generalize w.alloc (.cells (madeCells #[Value.int .i64 0] n) 3) = W0 at HV0 ⊢
  go_loopw [9] (fun i wr => ∃ k : Nat, i = .int .i64 ((k : Nat) : Int) ∧ k ≤ n ∧ Hid (IW w (some ⟨w.heap.size, 0, none⟩) n n (upto k ++ List.replicate (n - k) 0) wr)) (fun i _ => n - (intOf i).toNat)
  case atStart => exact ⟨0, rfl, by omega, HV0⟩
  case round =>
    clear HV0
    obtain ⟨k, rfl, hk, HV⟩ := hrel
    by_cases hlt : k < n
    · have d0 : decide ((k : Int) < (n : Int)) = true := by simp; omega
      obtain ⟨g, hA, c1, f1, _, hs⟩ := HV.out.set_ (i := k) (by simp [upto_len]; omega)
      injection hA with hA
      injection hA with hA
      rw [← hA] at c1
      have hs2 := hs (k : Int)
      rw [rise_step n k hlt] at hs2
      rw [← hA] at f1 hs2
      have HS := Lib.hid hs2
      have g0 : (0 : Int) ≤ (k : Int) := by omega
      have g1 : (k : Int) < (n : Int) := by omega
      clear hs hs2 hA HV
      go_wp2_with fail
      go_roundw
      case rel => exact ⟨k + 1, by go_num, by omega, HS⟩
      case measure => simp [intOf]; omega
    · obtain rfl : k = n := by omega
      have d0 : decide ((k : Int) < (k : Int)) = false := by simp
      have HE := Lib.hid (show IW w (some ⟨w.heap.size, 0, none⟩) k k (upto k) wr from by have := HV.out; rw [Nat.sub_self] at this; simpa using this)
      clear HV
      go_wp2_with fail
      go_ret
      exact ⟨_, rfl, HE.out⟩
set_option maxHeartbeats 1000000 in
theorem pickC_any (A : Option Addr) (n c : Nat) (l : List Int) (cur m : Int) (w : World) (B : Nat) (hN : Nums .i64 w B A n l) (hn : n ≤ 5000) (hl : ∀ x ∈ l, N64 x) (hc : N64 cur) (hm : N64 m) :
    Calls Try.prog 8 #[.slice A n c, .int .i64 cur, .int .i64 m] w fun en w' => en = .returned (.tuple #[.int .i64 (pickD l cur m).1, .int .i64 (pickD l cur m).2.1, errV (pickD l cur m).2.2]) ∧ w' = w := by
  have hln := hN.len
  have hck := checkC_any A n c l w B hN hn
  by_cases h1 : 4096 < n
  · rw [if_pos (show 4096 < l.length by omega), errV_err (by decide)] at hck
    have HP := Lib.hid (show pickD l cur m = (0, 0, 19) from by unfold pickD; rw [if_pos (by omega)])
    clear hln
    go_enter Try.func8, Try.ntmps8
    go_wp2_with fail
    refine hck.mono ?_
    rintro en w2 ⟨rfl, rfl⟩
    clear hck
    go_wp2_with fail
    go_ret3
    exact ⟨by rw [HP.out]; rfl, rfl⟩
  rw [if_neg (show ¬ 4096 < l.length by omega), errV_nil] at hck
  by_cases h2 : m < 1 ∨ cur < 0
  · have HP := Lib.hid (show pickD l cur m = (0, 0, 1) from by unfold pickD; rw [if_neg (by omega), if_pos h2])
    clear hln
    by_cases h3 : m < 1
    · have d2 : decide (m < 1) = true := by simp; omega
      clear h2
      go_enter Try.func8, Try.ntmps8
      go_wp2_with fail
      refine hck.mono ?_
      rintro en w2 ⟨rfl, rfl⟩
      clear hck
      go_wp2_with fail
      go_ret3
      exact ⟨by rw [HP.out]; rfl, rfl⟩
    · have d2 : decide (m < 1) = false := by simp; omega
      have d3 : decide (cur < 0) = true := by simp; omega
      clear h2
      go_enter Try.func8, Try.ntmps8
      go_wp2_with fail
      refine hck.mono ?_
      rintro en w2 ⟨rfl, rfl⟩
      clear hck
      go_wp2_with fail
      go_ret3
      exact ⟨by rw [HP.out]; rfl, rfl⟩
  have d2 : decide (m < 1) = false := by simp; omega
  have d3 : decide (cur < 0) = false := by simp; omega
  have hlf := leftC_any A n c l cur w B hN hn hc
  by_cases h4 : (n : Int) ≤ cur
  · have HP := Lib.hid (show pickD l cur m = (0, 0, 13) from by unfold pickD; rw [if_neg (by omega), if_neg h2, if_pos (by omega)])
    rw [show leftD l cur = 0 from by unfold leftD; rw [if_pos (.inr (by omega))]] at hlf
    clear hln h2 h4
    go_enter Try.func8, Try.ntmps8
    go_wp2_with fail
    refine hck.mono ?_
    rintro en w2 ⟨rfl, rfl⟩
    clear hck
    go_wp2_with fail
    refine hlf.mono ?_
    rintro en w2 ⟨rfl, rfl⟩
    clear hlf
    go_wp2_with fail
    go_ret3
    exact ⟨by rw [HP.out]; rfl, rfl⟩
  obtain ⟨k, rfl⟩ := Int.eq_ofNat_of_zero_le (show 0 ≤ cur by omega)
  have hk : k < l.length := by omega
  obtain ⟨a, rfl, _, hcell⟩ := hN.at_ hk
  obtain ⟨d, hd⟩ : ∃ d, d = l[k] := ⟨_, rfl⟩
  have hdi : N64 d := by rw [hd]; exact hl _ (List.getElem_mem hk)
  rw [← hd] at hcell
  have HP := Lib.hid (show pickD l (k : Int) m = (d % m, (k : Int) + 1, 0) from by
    unfold pickD
    rw [if_neg (by omega), if_neg h2, if_neg (by omega), Int.toNat_natCast, List.getD_eq_getElem?_getD, List.getElem?_eq_getElem hk, ← hd]; rfl)
  obtain ⟨f, hf⟩ : ∃ f, f = leftD l (k : Int) := ⟨_, rfl⟩
  have hf0 : (f == 0) = false := by
    have : f = (n : Int) - k := by rw [hf]; unfold leftD; rw [if_neg (by omega)]; omega
    simp; omega
  rw [← hf] at hlf
  have g0 : (0 : Int) ≤ (k : Int) := by omega
  have g1 : (k : Int) < (n : Int) := by omega
  have hb := belowC_any d m w (by omega) hm
  obtain ⟨q, hq⟩ : ∃ q, q = d % m := ⟨_, rfl⟩
  rw [← hq] at hb HP
  clear hln h2 h4 hd hk hm hq hf
  go_enter Try.func8, Try.ntmps8
  go_wp2_with fail
  refine hck.mono ?_
  rintro en w2 ⟨rfl, rfl⟩
  clear hck
  go_wp2_with fail
  refine hlf.mono ?_
  rintro en w2 ⟨rfl, rfl⟩
  clear hlf
  go_wp2_with fail
  refine hb.mono ?_
  rintro en w2 ⟨rfl, rfl⟩
  clear hb
  go_wp2_with fail
  go_ret3
  exact ⟨by rw [HP.out]; rfl, rfl⟩
set_option linter.unusedSimpArgs false in
set_option maxHeartbeats 0 in
theorem orderC_any (A : Option Addr) (n c : Nat) (l : List Int) (cur m : Int) (w : World) (hN : Nums .i64 w w.heap.size A n l) (hn : n ≤ 5000) (hl : ∀ x ∈ l, N64 x) (hc : N64 cur) (hm : N64 m) :
    Calls Try.prog 14 #[.slice A n c, .int .i64 cur, .int .i64 m] w (OrdP w (ordD l cur m)) := by
  have hln := hN.len
  have hck := checkC_any A n c l w _ hN hn
  by_cases h1 : 4096 < n
  · rw [if_pos (show 4096 < l.length by omega), errV_err (by decide)] at hck
    have HP := Lib.hid (show ordD l cur m = ([], 0, 19) from by unfold ordD; rw [if_pos (by omega)])
    clear hln
    have hfin : OrdP w (ordD l cur m) (.returned (.tuple #[.slice none 0 0, .int .i64 0, errV 19])) w := ⟨none, 0, 0, by rw [HP.out], Nat.le_refl _, by rw [HP.out]; exact Nums.none_, Below.refl _ _⟩
    go_enter Try.func14, Try.ntmps14
    go_wp2_with fail
    refine hck.mono ?_
    rintro en w2 ⟨rfl, rfl⟩
    clear hck
    go_wp2_with fail
    go_ret3
    exact hfin
  rw [if_neg (show ¬ 4096 < l.length by omega), errV_nil] at hck
  by_cases h2 : m < 0 ∨ 400 < m ∨ cur < 0
  · have HP := Lib.hid (show ordD l cur m = ([], 0, 1) from by unfold ordD; rw [if_neg (by omega), if_pos h2])
    clear hln
    have hfin : OrdP w (ordD l cur m) (.returned (.tuple #[.slice none 0 0, .int .i64 0, errV 1])) w := ⟨none, 0, 0, by rw [HP.out], Nat.le_refl _, by rw [HP.out]; exact Nums.none_, Below.refl _ _⟩
    by_cases h3 : m < 0
    · have d2 : decide (m < 0) = true := by simp; omega
      clear h2
      go_enter Try.func14, Try.ntmps14
      go_wp2_with fail
      refine hck.mono ?_
      rintro en w2 ⟨rfl, rfl⟩
      clear hck
      go_wp2_with fail
      go_ret3
      exact hfin
    · have d2 : decide (m < 0) = false := by simp; omega
      by_cases h4 : 400 < m
      · have d3 : decide (400 < m) = true := by simp; omega
        clear h2
        go_enter Try.func14, Try.ntmps14
        go_wp2_with fail
        refine hck.mono ?_
        rintro en w2 ⟨rfl, rfl⟩
        clear hck
        go_wp2_with fail
        go_ret3
        exact hfin
      · have d3 : decide (400 < m) = false := by simp; omega
        have d4 : decide (cur < 0) = true := by simp; omega
        clear h2
        go_enter Try.func14, Try.ntmps14
        go_wp2_with fail
        refine hck.mono ?_
        rintro en w2 ⟨rfl, rfl⟩
        clear hck
        go_wp2_with fail
        go_ret3
        exact hfin
  have d2 : decide (m < 0) = false := by simp; omega
  have d3 : decide (400 < m) = false := by simp; omega
  have d4 : decide (cur < 0) = false := by simp; omega
  have hlf := leftC_any A n c l cur w _ hN hn hc
  have hnd := needsC_any m w hm
  obtain ⟨f1, hf1⟩ : ∃ f, f = leftD l cur := ⟨_, rfl⟩
  obtain ⟨f2, hf2⟩ : ∃ f, f = needD m := ⟨_, rfl⟩
  rw [← hf1] at hlf
  rw [← hf2] at hnd
  by_cases h3 : f1 < f2
  · have d5 : decide (f1 < f2) = true := by simp; omega
    have HP := Lib.hid (show ordD l cur m = ([], 0, 13) from by unfold ordD; rw [if_neg (by omega), if_neg h2, if_pos (by rw [← hf1, ← hf2]; exact h3)])
    have hfin : OrdP w (ordD l cur m) (.returned (.tuple #[.slice none 0 0, .int .i64 0, errV 13])) w := ⟨none, 0, 0, by rw [HP.out], Nat.le_refl _, by rw [HP.out]; exact Nums.none_, Below.refl _ _⟩
    clear h2 hf1 hf2 hln
    go_enter Try.func14, Try.ntmps14
    go_wp2_with fail
    refine hck.mono ?_
    rintro en w2 ⟨rfl, rfl⟩
    clear hck
    go_wp2_with fail
    refine hlf.mono ?_
    rintro en w2 ⟨rfl, rfl⟩
    clear hlf
    go_wp2_with fail
    refine hnd.mono ?_
    rintro en w2 ⟨rfl, rfl⟩
    clear hnd
    go_wp2_with fail
    go_ret3
    exact hfin
  have d5 : decide (f1 < f2) = false := by simp; omega
  have HOrd := Lib.hid (show ordD l cur m = (ordAt l cur.toNat m.toNat (m.toNat - 1), cur + needD m, 0) from by
    unfold ordD; rw [if_neg (by omega), if_neg h2, if_neg (by rw [← hf1, ← hf2]; exact h3)])
  obtain ⟨k0, rfl⟩ := Int.eq_ofNat_of_zero_le (show 0 ≤ cur by omega)
  obtain ⟨k, rfl⟩ := Int.eq_ofNat_of_zero_le (show 0 ≤ m by omega)
  have hk4 : k ≤ 400 := by omega
  have HLeft := Lib.hid (show k ≤ 1 ∨ k0 + (k - 1) ≤ n from by
    unfold leftD at hf1; unfold needD at hf2
    split at hf1 <;> split at hf2 <;> omega)
  have hri := risingC_any k w hk4
  have HNN := Lib.hid hN
  have HL := Lib.hid hln
  have HH := Lib.hid hl
  have HC := Lib.hid hc
  simp only [Int.toNat_natCast] at HOrd
  clear h2 hln hN hl hc hm hf1 hf2 h3
  go_enter Try.func14, Try.ntmps14
  go_wp2_with fail
  refine hck.mono ?_
  rintro en w2 ⟨rfl, rfl⟩
  clear hck
  go_wp2_with fail
  refine hlf.mono ?_
  rintro en w2 ⟨rfl, rfl⟩
  clear hlf
  go_wp2_with fail
  refine hnd.mono ?_
  rintro en w2 ⟨rfl, rfl⟩
  clear hnd
  go_wp2_with fail
  refine hri.mono ?_
  rintro en w3 ⟨A2, rfl, hV⟩
  clear hri d2 d3 d4 d5
  have HW0 := Lib.hid (show IW w2 A2 k k (ordAt l k0 k 0) w3 from hV)
  clear hV
  go_upto_region 10 with fail
  go_loopw [1, 11] (fun cu i wx => ∃ z : Nat, cu = .int .i64 (((k0 + z : Nat)) : Int) ∧ i = .int .i64 ((k : Int) - 1 - (z : Int)) ∧ (z = 0 ∨ z < k) ∧ Hid (IW w2 A2 k k (ordAt l k0 k z) wx)) (fun _ i _ => (intOf i).toNat)
  case atStart => exact ⟨0, rfl, by simp, .inl rfl, HW0⟩
  case round =>
    clear HW0
    obtain ⟨z, rfl, rfl, hz, HW⟩ := hrel
    obtain ⟨cc, hcc⟩ : ∃ cc, cc = k0 + z := ⟨_, rfl⟩
    rw [← hcc]
    by_cases hlt : z + 1 < k
    · obtain ⟨i, hi1⟩ : ∃ i, i = k - 1 - z := ⟨_, rfl⟩
      have hie : (k : Int) - 1 - (z : Int) = (i : Int) := by omega
      rw [hie]
      have hik : i < k := by omega
      have hi1' : 1 ≤ i := by omega
      have d0 : decide ((0 : Int) < (i : Int)) = true := by simp; omega
      obtain ⟨i2, hi2⟩ : ∃ i2 : Nat, i2 = i + 1 := ⟨_, rfl⟩
      have e2 : (i : Int) + 1 = (i2 : Int) := by omega
      have hcn : cc < n := by have := HLeft.out; omega
      have hcl : cc < l.length := by have := HL.out; omega
      obtain ⟨a, hA, _, hcell⟩ := (HNN.out.below HW.out.b).at_ hcl
      subst hA
      obtain ⟨d, hd⟩ : ∃ d, d = l[cc] := ⟨_, rfl⟩
      rw [← hd] at hcell
      have hdl : l[k0 + z]? = some d := by rw [hd, ← hcc]; exact List.getElem?_eq_getElem hcl
      have hbl := belowC_any d (i2 : Int) wr (by omega) (by unfold N64; omega)
      obtain ⟨x0, x1⟩ := emod_rng d (i2 : Int) (by omega)
      obtain ⟨x, hx⟩ := Int.eq_ofNat_of_zero_le x0
      rw [hx] at hbl x1
      have g0 : (0 : Int) ≤ (cc : Int) := by omega
      have g1 : (cc : Int) < (n : Int) := by omega
      have p0 : (0 : Int) ≤ (x : Int) := by omega
      have p1 : (x : Int) < (k : Int) := by omega
      have p2 : (0 : Int) ≤ (i : Int) := by omega
      have p3 : (i : Int) < (k : Int) := by omega
      have hxk : x < k := by omega
      have HORD := Lib.hid (show ordAt l k0 k (z + 1) = swapL (ordAt l k0 k z) i x from by
        rw [ord_next hdl, ← hi1, ← hi2, hx, Int.toNat_natCast])
      have HI := Lib.hid (And.intro hi1 hi2)
      have HCC := Lib.hid hcc
      clear hd hdl hx x0 hi1 hi2 hcc hcl hie
      go_wp2_with fail
      refine hbl.mono ?_
      rintro en w4 ⟨rfl, rfl⟩
      clear hbl
      go_upto_region 13 with fail
      rename_i K0 hK0
      refine wp_region_held_drew (S := fun _ => True) (by kernel_rfl) trivial (fun hHeld => ?_)
      have hvd := HW.out.keep (Below.refl w4.heap.size w4).drew
      obtain ⟨w5, hw5⟩ : ∃ W, W = w4.drew := ⟨_, rfl⟩
      rw [← hw5] at hvd
      rw [← hw5]
      obtain ⟨g, hA, c1, c3, f1, f3, c5, hsw⟩ := hvd.swap (i := i) (k := x) hik hxk
      have HSW := Lib.hid (show IW w2 A2 k k (ordAt l k0 k (z + 1)) _ from by rw [HORD.out]; exact hsw)
      subst hA
      obtain ⟨v1, hv1⟩ : ∃ v, v = (ordAt l k0 k z).getD i 0 := ⟨_, rfl⟩
      obtain ⟨v2, hv2⟩ : ∃ v, v = (ordAt l k0 k z).getD x 0 := ⟨_, rfl⟩
      rw [← hv1, ← hv2] at HSW
      rw [← hv1] at c1
      rw [← hv2] at c3 c5
      clear hsw hv1 hv2 hvd hw5 HW
      refine wpAnyH_take (i := 0) (v := ?_) rfl (by kernel_rfl) (by kernel_rfl) (by kernel_rfl) (fun _ _ _ h => h) (Or.inl ⟨by rfl, ?_⟩) hHeld ?_
      rotate_left
      · (intro w hSw; go_simp; (try with_reducible rfl))
      simp only [Act.put, List.getElem_toArray, List.getElem_cons_zero, List.getElem_cons_succ, List.setIfInBounds_toArray, List.set_cons_zero, List.set_cons_succ]
      refine wpAnyH_take (i := 1) (v := ?_) rfl (by kernel_rfl) (by kernel_rfl) (by kernel_rfl) (fun _ _ _ h => h) (Or.inl ⟨by rfl, ?_⟩) hHeld ?_
      rotate_left
      · (intro w hSw; go_simp; (try with_reducible rfl))
      simp only [Act.put, List.getElem_toArray, List.getElem_cons_zero, List.getElem_cons_succ, List.setIfInBounds_toArray, List.set_cons_zero, List.set_cons_succ]
      refine wpAnyH_take (i := 2) (v := ?_) rfl (by kernel_rfl) (by kernel_rfl) (by kernel_rfl) (fun _ _ _ h => h) (Or.inl ⟨by rfl, ?_⟩) hHeld ?_
      rotate_left
      · (intro w hSw; go_simp; (try with_reducible rfl))
      simp only [Act.put, List.getElem_toArray, List.getElem_cons_zero, List.getElem_cons_succ, List.setIfInBounds_toArray, List.set_cons_zero, List.set_cons_succ]
      refine wpAnyH_take (i := 3) (v := ?_) rfl (by kernel_rfl) (by kernel_rfl) (by kernel_rfl) (fun _ _ _ h => h) (Or.inl ⟨by rfl, ?_⟩) hHeld ?_
      rotate_left
      · (intro w hSw; go_simp; (try with_reducible rfl))
      simp only [Act.put, List.getElem_toArray, List.getElem_cons_zero, List.getElem_cons_succ, List.setIfInBounds_toArray, List.set_cons_zero, List.set_cons_succ]
      refine wpAnyH_take (i := 4) (v := ?_) rfl (by kernel_rfl) (by kernel_rfl) (by kernel_rfl) (fun _ _ _ h => h) (Or.inl ⟨by rfl, ?_⟩) hHeld ?_
      rotate_left
      · (intro w hSw; go_simp; (try with_reducible rfl))
      simp only [Act.put, List.getElem_toArray, List.getElem_cons_zero, List.getElem_cons_succ, List.setIfInBounds_toArray, List.set_cons_zero, List.set_cons_succ]
      refine wpAnyH_take (i := 5) (v := ?_) rfl (by kernel_rfl) (by kernel_rfl) (by kernel_rfl) (fun _ _ _ h => h) (Or.inl ⟨by rfl, ?_⟩) hHeld ?_
      rotate_left
      · (intro w hSw; go_simp; (try with_reducible rfl))
      simp only [Act.put, List.getElem_toArray, List.getElem_cons_zero, List.getElem_cons_succ, List.setIfInBounds_toArray, List.set_cons_zero, List.set_cons_succ]
      refine wpAnyH_take (i := 6) (v := ?_) rfl (by kernel_rfl) (by kernel_rfl) (by kernel_rfl) (fun _ _ _ h => h) (Or.inl ⟨by rfl, ?_⟩) hHeld ?_
      rotate_left
      · (intro w hSw; go_simp; (try with_reducible rfl))
      simp only [Act.put, List.getElem_toArray, List.getElem_cons_zero, List.getElem_cons_succ, List.setIfInBounds_toArray, List.set_cons_zero, List.set_cons_succ]
      refine wpAnyH_take (i := 8) (v := ?_) rfl (by kernel_rfl) (by kernel_rfl) (by kernel_rfl) (fun _ _ _ h => h) (Or.inl ⟨by rfl, ?_⟩) hHeld ?_
      rotate_left
      · (intro w hSw; go_simp; (try with_reducible rfl))
      simp only [Act.put, List.getElem_toArray, List.getElem_cons_zero, List.getElem_cons_succ, List.setIfInBounds_toArray, List.set_cons_zero, List.set_cons_succ]
      refine wpAnyH_take (i := 9) (v := ?_) rfl (by kernel_rfl) (by kernel_rfl) (by kernel_rfl) (fun _ _ _ h => h) (Or.inl ⟨by rfl, ?_⟩) hHeld ?_
      rotate_left
      · (intro w hSw; go_simp; (try with_reducible rfl))
      simp only [Act.put, List.getElem_toArray, List.getElem_cons_zero, List.getElem_cons_succ, List.setIfInBounds_toArray, List.set_cons_zero, List.set_cons_succ]
      refine wpAnyH_take (i := 10) (v := ?_) rfl (by kernel_rfl) (by kernel_rfl) (by kernel_rfl) (fun _ _ _ h => h) (Or.inl ⟨by rfl, ?_⟩) hHeld ?_
      rotate_left
      · (intro w hSw; go_simp; (try with_reducible rfl))
      simp only [Act.put, List.getElem_toArray, List.getElem_cons_zero, List.getElem_cons_succ, List.setIfInBounds_toArray, List.set_cons_zero, List.set_cons_succ]
      refine wpAnyH_ready (rs := [7, 11]) (by kernel_rfl) (by simp) ?_
      refine AllReadyH.cons rfl (fun K hK => ?_) (AllReadyH.cons rfl (fun K hK => ?_) AllReadyH.nil)
      all_goals (try simp only [List.getElem_toArray, List.getElem_cons_zero, List.getElem_cons_succ])
      · go_simp
        refine hK.out _ _ trivial (fun _ => ?_)
        clear hK K
        try simp only [Act.put, List.setIfInBounds_toArray, List.set_cons_zero, List.set_cons_succ]
        refine wpAnyH_ready (rs := [11]) (by kernel_rfl) (by simp) ?_
        refine AllReadyH.cons rfl (fun K hK => ?_) AllReadyH.nil
        try simp only [List.getElem_toArray, List.getElem_cons_zero, List.getElem_cons_succ]
        go_simp
        refine hK.out _ _ trivial (fun _ => ?_)
        clear hK K
        try simp only [Act.put, List.setIfInBounds_toArray, List.set_cons_zero, List.set_cons_succ]
        refine wpAnyH_take (i := 12) (v := ?_) rfl (by kernel_rfl) (by kernel_rfl) (by kernel_rfl) (fun _ _ _ h => h) (Or.inl ⟨by rfl, ?_⟩) hHeld ?_
        rotate_left
        · (intro w hSw; go_simp; (try with_reducible rfl))
        simp only [Act.put, List.getElem_toArray, List.getElem_cons_zero, List.getElem_cons_succ, List.setIfInBounds_toArray, List.set_cons_zero, List.set_cons_succ]
        refine wpAnyH_ready (rs := [13]) (by kernel_rfl) (by simp) ?_
        refine AllReadyH.cons rfl (fun K hK => ?_) AllReadyH.nil
        try simp only [List.getElem_toArray, List.getElem_cons_zero, List.getElem_cons_succ]
        go_simp
        refine hK.out _ _ trivial (fun _ => ?_)
        clear hK K
        try simp only [Act.put, List.setIfInBounds_toArray, List.set_cons_zero, List.set_cons_succ]
        refine wpAnyH_take (i := 14) (v := ?_) rfl (by kernel_rfl) (by kernel_rfl) (by kernel_rfl) (fun _ _ _ h => h) (Or.inl ⟨by rfl, ?_⟩) hHeld ?_
        rotate_left
        · (intro w hSw; go_simp; (try with_reducible rfl))
        simp only [Act.put, List.getElem_toArray, List.getElem_cons_zero, List.getElem_cons_succ, List.setIfInBounds_toArray, List.set_cons_zero, List.set_cons_succ]
        refine wpAnyH_ready (rs := [15]) (by kernel_rfl) (by simp) ?_
        refine AllReadyH.cons rfl (fun K hK => ?_) AllReadyH.nil
        try simp only [List.getElem_toArray, List.getElem_cons_zero, List.getElem_cons_succ]
        go_simp
        refine hK.out _ _ trivial (fun _ => ?_)
        clear hK K
        try simp only [Act.put, List.setIfInBounds_toArray, List.set_cons_zero, List.set_cons_succ]
        refine wpAnyH_done (by kernel_rfl) ?_ _
        refine hK0 _ _ ?_
        clear hK0 K0
        go_wp2_with fail
        go_roundw
        case rel => exact ⟨z + 1, by have := HCC.out; go_num, by have := HI.out.1; go_num, .inr (by omega), HSW⟩
        case measure => simp [intOf]; omega
      · go_simp
        refine hK.out _ _ trivial (fun _ => ?_)
        clear hK K
        try simp only [Act.put, List.setIfInBounds_toArray, List.set_cons_zero, List.set_cons_succ]
        refine wpAnyH_ready (rs := [7]) (by kernel_rfl) (by simp) ?_
        refine AllReadyH.cons rfl (fun K hK => ?_) AllReadyH.nil
        try simp only [List.getElem_toArray, List.getElem_cons_zero, List.getElem_cons_succ]
        go_simp
        refine hK.out _ _ trivial (fun _ => ?_)
        clear hK K
        try simp only [Act.put, List.setIfInBounds_toArray, List.set_cons_zero, List.set_cons_succ]
        refine wpAnyH_take (i := 12) (v := ?_) rfl (by kernel_rfl) (by kernel_rfl) (by kernel_rfl) (fun _ _ _ h => h) (Or.inl ⟨by rfl, ?_⟩) hHeld ?_
        rotate_left
        · (intro w hSw; go_simp; (try with_reducible rfl))
        simp only [Act.put, List.getElem_toArray, List.getElem_cons_zero, List.getElem_cons_succ, List.setIfInBounds_toArray, List.set_cons_zero, List.set_cons_succ]
        refine wpAnyH_ready (rs := [13]) (by kernel_rfl) (by simp) ?_
        refine AllReadyH.cons rfl (fun K hK => ?_) AllReadyH.nil
        try simp only [List.getElem_toArray, List.getElem_cons_zero, List.getElem_cons_succ]
        go_simp
        refine hK.out _ _ trivial (fun _ => ?_)
        clear hK K
        try simp only [Act.put, List.setIfInBounds_toArray, List.set_cons_zero, List.set_cons_succ]
        refine wpAnyH_take (i := 14) (v := ?_) rfl (by kernel_rfl) (by kernel_rfl) (by kernel_rfl) (fun _ _ _ h => h) (Or.inl ⟨by rfl, ?_⟩) hHeld ?_
        rotate_left
        · (intro w hSw; go_simp; (try with_reducible rfl))
        simp only [Act.put, List.getElem_toArray, List.getElem_cons_zero, List.getElem_cons_succ, List.setIfInBounds_toArray, List.set_cons_zero, List.set_cons_succ]
        refine wpAnyH_ready (rs := [15]) (by kernel_rfl) (by simp) ?_
        refine AllReadyH.cons rfl (fun K hK => ?_) AllReadyH.nil
        try simp only [List.getElem_toArray, List.getElem_cons_zero, List.getElem_cons_succ]
        go_simp
        refine hK.out _ _ trivial (fun _ => ?_)
        clear hK K
        try simp only [Act.put, List.setIfInBounds_toArray, List.set_cons_zero, List.set_cons_succ]
        refine wpAnyH_done (by kernel_rfl) ?_ _
        refine hK0 _ _ ?_
        clear hK0 K0
        go_wp2_with fail
        go_roundw
        case rel => exact ⟨z + 1, by have := HCC.out; go_num, by have := HI.out.1; go_num, .inr (by omega), HSW⟩
        case measure => simp [intOf]; omega
    · have HO2 := Lib.hid (show ordD l (k0 : Int) (k : Int) = (ordAt l k0 k z, (cc : Int), 0) from by
        have hz1 : z = k - 1 := by omega
        rw [HOrd.out, hz1]
        unfold needD
        split
        · rw [show (k0 : Int) + 0 = (cc : Int) by omega]
        · rw [show (k0 : Int) + ((k : Int) - 1) = (cc : Int) by omega])
      have d0 : decide ((0 : Int) < (k : Int) - 1 - (z : Int)) = false := by simp; omega
      have HF := Lib.hid (show Nums .i64 wr wr.heap.size A2 k (ordAt l k0 k z) ∧ Below w2.heap.size w2 wr from ⟨HW.out.own.nums, HW.out.b⟩)
      clear HW hcc
      go_wp2_with fail
      go_ret3
      exact ⟨A2, k, k, by rw [HO2.out]; rfl, Nat.le_refl _, by rw [HO2.out]; exact HF.out.1, HF.out.2⟩
/-- What rand's calls answer. -/
theorem rnSaid (z : World) : RnSaid z where
  check A n c l w hN _ hn _ := (checkC_any A n c l w _ hN hn).mono fun _ _ h => ⟨h.1, h.2 ▸ Below.refl _ _⟩
  pick A n c l cur m w hN _ hn hl hc hm _ := (pickC_any A n c l cur m w _ hN hn hl hc hm).mono fun _ _ h => ⟨h.1, h.2 ▸ Below.refl _ _⟩
  order A n c l cur m w hN _ hn hl hc hm _ := orderC_any A n c l cur m w hN hn hl hc hm
  left A n c l cur w hN _ hn hc _ := (leftC_any A n c l cur w _ hN hn hc).mono fun _ _ h => ⟨h.1, h.2 ▸ Below.refl _ _⟩
  needs m w hm _ := (needsC_any m w hm).mono fun _ _ h => ⟨h.1, h.2 ▸ Below.refl _ _⟩
end Go.Proofs.Ytllamlmeklalaaa
