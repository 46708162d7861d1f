/- Layer 2: WirePuts, walked. -/
import Derived.Test.YtlodnfdpphbppaaWireL
import Derived.Test.YtlodnfdpphbppaaReg
namespace Go.Proofs.Ytlodnfdpphbppaa
open Go.RowKit Wx
/-- What a call that makes bytes answers, as a string, whatever is made later. -/
def MadeS (T D : TypeId) (P : Program) (W : World) (L : Nat) (s : ByteArray) (e : Ending) (w' : World) : Prop :=
  ∃ A c, e = .returned (.slice A L c) ∧ (∀ W', Below w'.heap.size w' W' → (convert T D (.slice A L c)).run P W' = .ok (.string s) W') ∧ Below W.heap.size W w'
theorem madeS_of {W w' : World} {l : List Int} {s : ByteArray} {e : Ending} {L : Nat} (h : MadeB .u8 5 W W.heap.size l e w') (hs : strOfNums l = s) (hm : l.length = L) : MadeS 22 9 Try.prog W L s e w' := by
  obtain ⟨A, m, c, rfl, hown, hb⟩ := h
  subst hs
  obtain rfl : m = L := by rw [← hown.len]; exact hm
  exact ⟨A, c, rfl, fun W' h' => string_at (hown.nums.below h'), hb⟩
theorem keepB {a W w' : World} (h2 : Below W.heap.size W w') (h1 : Below a.heap.size a W) : Below a.heap.size a w' := h1.trans (h2.mono h1.size)
set_option linter.unusedSimpArgs false in
set_option maxHeartbeats 1000000 in
theorem wirePuts_region (A : Option Addr) (n c : Nat) (bs : List Int) (A2 : Option Addr) (n2 c2 : Nat) (l : List Int) (w : World) (hN : Nums .u8 w w.heap.size A n bs) (hl : ∀ x ∈ l, i64B x) (hN2 : Nums .i64 w w.heap.size A2 n2 l) (hb : byB bs) (hn : n ≤ 200) (hn2 : n2 ≤ 200) :
    Calls Try.prog 3 #[.slice A n c, .slice A2 n2 c2] w fun e w' => e = .returned (.bool true) ∧ Below w.heap.size w w' := by
  obtain ⟨i0, hi, hz0, hz1, hz2⟩ := info_parts info_u8
  have hlen := hN.len
  have hlen2 := hN2.len
  obtain ⟨s1, hs1⟩ : ∃ s, s = strOfNums bs := ⟨_, rfl⟩
  obtain ⟨s2, hs2⟩ : ∃ s, s = strOfNums (lst l) := ⟨_, rfl⟩
  have ss1 : s1.size ≤ 200 := by rw [hs1, strOfNums_size]; omega
  have ss2 : s2.size ≤ 2010 := by rw [hs2, strOfNums_size]; have := lst_len l; omega
  have HN := Lib.hid hN
  have HN2 := Lib.hid hN2
  have HL := Lib.hid hl
  have HB := Lib.hid hb
  have HS1 := Lib.hid hs1
  have HS2 := Lib.hid hs2
  have Hlen := Lib.hid hlen
  have Hlen2 := Lib.hid hlen2
  clear hN hN2 hl hb hs1 hs2 hlen hlen2
  go_enter Try.func3, Try.ntmps3
  go_wp2_with fail
  refine (alive_true _).mono ?_
  rintro e w1 ⟨rfl, hb1⟩
  have hz1' := hb1.size
  go_wp2_with (at_builtin; refine wpList_app rfl (.tmp 18) (.tmp 19) _ rfl .u8 w1.heap.size 5 i0 _ 1 Try.underlying22 hi hz0 hz1 hz2 rfl (some ⟨w1.heap.size, 0, none⟩) 0 0 [] rfl (own_empty w1 _ (Nat.le_refl _)) w.heap.size A n c bs rfl ((HN.out.below hb1).alloc hz1' _) (by omega) (by omega) (by simp) ?_; intro A3 c3 w2 hown3 hg3)
  have hb2 := (own_empty (k := .u8) (e := 5) w1 _ (Nat.le_refl _)).belowGrown ((Below.refl w1.heap.size w1).alloc (Nat.le_refl _) _) (by simp) hg3
  have hbel2 := hb1.trans (hb2.mono hz1')
  have hz2' := hbel2.size
  simp only [Nat.zero_add, List.nil_append] at hown3
  have HN3 := Lib.hid hown3.nums
  have Hbel2 := Lib.hid hbel2
  clear hown3 hg3 hb2 hb1 hbel2
  obtain ⟨L1, hL1⟩ : ∃ L, L = (bs ++ lst l).length := ⟨_, rfl⟩
  obtain ⟨L2, hL2⟩ : ∃ L, L = (lst l).length := ⟨_, rfl⟩
  have HL1 := Lib.hid hL1
  have HL2 := Lib.hid hL2
  clear hL1 hL2
  have HPL : Hid (∀ W, Below w2.heap.size w2 W → Calls Try.prog 8 #[.slice A3 n c3, .slice A2 n2 c2] W (MadeS 22 9 Try.prog W L1 (s1 ++ s2))) := fun W hW =>
    (putList_any A3 n c3 _ A2 n2 c2 l W w2.heap.size (HN3.out.below hW) (((HN2.out.below Hbel2.out).more hz2').below hW) HL.out hW.size (by omega) (by omega)).mono fun e w' h =>
      madeS_of h (by rw [HS1.out, HS2.out, str_append]) HL1.out.symm
  have HLR : Hid (∀ W, Below w2.heap.size w2 W → Calls Try.prog 9 #[.slice A2 n2 c2] W (MadeS 22 9 Try.prog W L2 s2)) := fun W hW =>
    (listRef_any A2 n2 c2 l W w2.heap.size (((HN2.out.below Hbel2.out).more hz2').below hW) HL.out hW.size (by omega)).mono fun e w' h =>
      madeS_of h HS2.out.symm HL2.out.symm
  have hcb : ∀ W, Below w2.heap.size w2 W → (convert 22 9 (.slice A n c)).run Try.prog W = .ok (.string s1) W := fun W hW => by
    rw [HS1.out]; exact string_at (((HN.out.below Hbel2.out).more hz2').below hW)
  go_wp2_with fail
  have hcat : ¬ 9223372036854775807 < s1.size + s2.size := by omega
  refine region_below (by kernel_rfl) (fun hHeld => ?_)
  refine wpAnyH_take (i := 0) (v := ?_) rfl (by kernel_rfl) (by kernel_rfl) (by kernel_rfl) (fun _ _ _ h => h) (Or.inl ⟨by rfl, ?_⟩) hHeld ?_
  rotate_left
  · (intro w hSw; go_simp; (try with_reducible rfl))
  simp only [Act.put, List.getElem_toArray, List.getElem_cons_zero, List.getElem_cons_succ, List.setIfInBounds_toArray, List.set_cons_zero, List.set_cons_succ]
  refine wpAnyH_take (i := 1) (v := ?_) rfl (by kernel_rfl) (by kernel_rfl) (by kernel_rfl) (fun _ _ _ h => h) (Or.inl ⟨by rfl, ?_⟩) hHeld ?_
  rotate_left
  · (intro w hSw; go_simp; (try with_reducible rfl))
  simp only [Act.put, List.getElem_toArray, List.getElem_cons_zero, List.getElem_cons_succ, List.setIfInBounds_toArray, List.set_cons_zero, List.set_cons_succ]
  refine wpAnyH_take (i := 4) (v := ?_) rfl (by kernel_rfl) (by kernel_rfl) (by kernel_rfl) (fun _ _ _ h => h) (Or.inl ⟨by rfl, ?_⟩) hHeld ?_
  rotate_left
  · (intro w hSw; go_simp; (try with_reducible rfl))
  simp only [Act.put, List.getElem_toArray, List.getElem_cons_zero, List.getElem_cons_succ, List.setIfInBounds_toArray, List.set_cons_zero, List.set_cons_succ]
  refine wpAnyH_take (i := 5) (v := ?_) rfl (by kernel_rfl) (by kernel_rfl) (by kernel_rfl) (fun _ _ _ h => h) (Or.inl ⟨by rfl, ?_⟩) hHeld ?_
  rotate_left
  · (intro w hSw; go_simp; (try with_reducible rfl))
  simp only [Act.put, List.getElem_toArray, List.getElem_cons_zero, List.getElem_cons_succ, List.setIfInBounds_toArray, List.set_cons_zero, List.set_cons_succ]
  refine wpAnyH_take (i := 6) (v := ?_) rfl (by kernel_rfl) (by kernel_rfl) (by kernel_rfl) (fun _ _ _ h => h) (Or.inl ⟨by rfl, ?_⟩) hHeld ?_
  rotate_left
  · (intro w hSw; go_simp; (try with_reducible rfl))
  simp only [Act.put, List.getElem_toArray, List.getElem_cons_zero, List.getElem_cons_succ, List.setIfInBounds_toArray, List.set_cons_zero, List.set_cons_succ]
  refine wpAnyH_ready (rs := [2]) (by kernel_rfl) (by simp) ?_
  refine AllReadyH.cons rfl (fun K hK => ?_) AllReadyH.nil
  simp only [List.getElem_toArray, List.getElem_cons_zero, List.getElem_cons_succ]
  go_simp
  refine (HPL.out _ hHeld).mono ?_
  rintro e w7 ⟨A7, c7, rfl, hcc7, hb7⟩
  go_wp2_with fail
  have hB7 := keepB hb7 hHeld
  refine hK.out _ _ hB7 (fun _ => ?_)
  clear hK K
  try simp only [Act.put, List.setIfInBounds_toArray, List.set_cons_zero, List.set_cons_succ]
  refine anyH_rebase hB7 (fun hHeld => ?_)
  refine wpAnyH_take (i := 3) (v := ?_) rfl (by kernel_rfl) (by kernel_rfl) (by kernel_rfl) (fun _ _ _ h => h) (Or.inl ⟨by rfl, ?_⟩) hHeld ?_
  rotate_left
  · (intro w hSw; go_simp; (try with_reducible rfl))
  simp only [Act.put, List.getElem_toArray, List.getElem_cons_zero, List.getElem_cons_succ, List.setIfInBounds_toArray, List.set_cons_zero, List.set_cons_succ]
  refine wpAnyH_ready (rs := [7]) (by kernel_rfl) (by simp) ?_
  refine AllReadyH.cons rfl (fun K hK => ?_) AllReadyH.nil
  simp only [List.getElem_toArray, List.getElem_cons_zero, List.getElem_cons_succ]
  go_simp
  refine (HLR.out _ (keepB hHeld hB7)).mono ?_
  rintro e w8 ⟨A8, c8, rfl, hcc8, hb8⟩
  go_wp2_with fail
  have hB8 := keepB hb8 hHeld
  refine hK.out _ _ hB8 (fun _ => ?_)
  clear hK K
  try simp only [Act.put, List.setIfInBounds_toArray, List.set_cons_zero, List.set_cons_succ]
  refine anyH_rebase hB8 (fun hHeld => ?_)
  refine wpAnyH_take (i := 8) (v := ?_) rfl (by kernel_rfl) (by kernel_rfl) (by kernel_rfl) (fun _ _ _ h => h) (Or.inl ⟨by rfl, ?_⟩) hHeld ?_
  rotate_left
  · (intro w hSw; go_simp; (try with_reducible rfl))
  simp only [Act.put, List.getElem_toArray, List.getElem_cons_zero, List.getElem_cons_succ, List.setIfInBounds_toArray, List.set_cons_zero, List.set_cons_succ]
  refine wpAnyH_take (i := 9) (v := ?_) rfl (by kernel_rfl) (by kernel_rfl) (by kernel_rfl) (fun _ _ _ h => h) (Or.inl ⟨by rfl, ?_⟩) hHeld ?_
  rotate_left
  · (intro w hSw; go_simp; (try with_reducible rfl))
  simp only [Act.put, List.getElem_toArray, List.getElem_cons_zero, List.getElem_cons_succ, List.setIfInBounds_toArray, List.set_cons_zero, List.set_cons_succ]
  refine wpAnyH_take (i := 10) (v := ?_) rfl (by kernel_rfl) (by kernel_rfl) (by kernel_rfl) (fun _ _ _ h => h) (Or.inl ⟨by rfl, ?_⟩) hHeld ?_
  rotate_left
  · (intro w hSw; go_simp; (try with_reducible rfl))
  simp only [Act.put, List.getElem_toArray, List.getElem_cons_zero, List.getElem_cons_succ, List.setIfInBounds_toArray, List.set_cons_zero, List.set_cons_succ]
  refine wpAnyH_done (by kernel_rfl) ?_ _
  have hbel8 := hB7.trans (hB8.mono hB7.size)
  clear hHeld hcc7 hcc8 hb7 hb8 hB8 HPL HLR hcb hB7
  clear hcat
  go_wp2_with fail
  go_loopw [34] (fun i wr => ∃ k : Nat, i = .int .i64 ((k : Nat) : Int) ∧ k ≤ n2 ∧ Below w2.heap.size w2 wr) (fun i _ => n2 - (intOf i).toNat)
  case atStart => exact ⟨0, rfl, by omega, hbel8⟩
  case round =>
    obtain ⟨k, rfl, hk, hbel⟩ := hrel
    clear hbel8
    have hs := hbel.size
    have hbw : Below w.heap.size w wr := Hbel2.out.trans (hbel.mono hz2')
    have Hbw := Lib.hid hbw
    clear hbw
    by_cases hlt : k < n2
    · obtain ⟨a, hA, hab, hc⟩ := (HN2.out.below Hbw.out).at_ (by rw [Hlen2.out]; exact hlt)
      obtain ⟨x, hx⟩ : ∃ x, x = l[k]'(by rw [Hlen2.out]; exact hlt) := ⟨_, rfl⟩
      rw [← hx] at hc
      have Hx : Hid (i64B x) := by rw [hx]; exact HL.out _ (List.getElem_mem _)
      clear hx
      obtain ⟨sx, hsx⟩ : ∃ s, s = strOfNums (bts x) := ⟨_, rfl⟩
      obtain ⟨Lx, hLx⟩ : ∃ L, L = (bts x).length := ⟨_, rfl⟩
      obtain ⟨Ly, hLy⟩ : ∃ L, L = (bs ++ bts x).length := ⟨_, rfl⟩
      have hcat : ¬ 9223372036854775807 < s1.size + sx.size := by
        have := bts_len x
        rw [hsx, strOfNums_size]; omega
      have HSX := Lib.hid hsx
      have HLX := Lib.hid hLx
      have HLY := Lib.hid hLy
      clear hsx hLx hLy
      have HP : Hid (∀ W, Below wr.heap.size wr W → Calls Try.prog 10 #[.slice A3 n c3, .int .i64 x] W (MadeS 22 9 Try.prog W Ly (s1 ++ sx))) := fun W hW =>
        (put_any A3 n c3 _ x Hx.out W w2.heap.size (HN3.out.below (hbel.trans (hW.mono hs))) (by have := hW.size; omega) (by omega)).mono fun e w' h =>
          madeS_of h (by rw [HS1.out, HSX.out, str_append]) HLY.out.symm
      have HR : Hid (∀ W, Below wr.heap.size wr W → Calls Try.prog 11 #[.int .i64 x] W (MadeS 22 9 Try.prog W Lx sx)) := fun W hW =>
        (bytesRef_any x Hx.out W).mono fun e w' h => madeS_of h HSX.out.symm HLX.out.symm
      have HZ : Hid (∀ W, Calls Try.prog 12 #[.int .i64 x] W fun e w' => e = .returned (.int .i64 (Lx : Nat)) ∧ W = w') := fun W => by
        have h := size_any x Hx.out W
        rw [← HLX.out] at h; exact h
      have hcb : ∀ W, Below wr.heap.size wr W → (convert 22 9 (.slice A n c)).run Try.prog W = .ok (.string s1) W := fun W hW => by
        rw [HS1.out]; exact string_at (((HN.out.below Hbw.out).more (B' := wr.heap.size) (by omega)).below hW)
      subst hA
      go_wp2_with fail
      refine region_below (by kernel_rfl) (fun hHeld => ?_)
      refine wpAnyH_take (i := 0) (v := ?_) rfl (by kernel_rfl) (by kernel_rfl) (by kernel_rfl) (fun _ _ _ h => h) (Or.inl ⟨by rfl, ?_⟩) hHeld ?_
      rotate_left
      · (intro w hSw; go_simp; (try with_reducible rfl))
      simp only [Act.put, List.getElem_toArray, List.getElem_cons_zero, List.getElem_cons_succ, List.setIfInBounds_toArray, List.set_cons_zero, List.set_cons_succ]
      refine wpAnyH_take (i := 1) (v := ?_) rfl (by kernel_rfl) (by kernel_rfl) (by kernel_rfl) (fun _ _ _ h => h) (Or.inl ⟨by rfl, ?_⟩) hHeld ?_
      rotate_left
      · (intro w hSw; go_simp; (try with_reducible rfl))
      simp only [Act.put, List.getElem_toArray, List.getElem_cons_zero, List.getElem_cons_succ, List.setIfInBounds_toArray, List.set_cons_zero, List.set_cons_succ]
      refine wpAnyH_take (i := 4) (v := ?_) rfl (by kernel_rfl) (by kernel_rfl) (by kernel_rfl) (fun _ _ _ h => h) (Or.inl ⟨by rfl, ?_⟩) hHeld ?_
      rotate_left
      · (intro w hSw; go_simp; (try with_reducible rfl))
      simp only [Act.put, List.getElem_toArray, List.getElem_cons_zero, List.getElem_cons_succ, List.setIfInBounds_toArray, List.set_cons_zero, List.set_cons_succ]
      refine wpAnyH_take (i := 5) (v := ?_) rfl (by kernel_rfl) (by kernel_rfl) (by kernel_rfl) (fun _ _ _ h => h) (Or.inl ⟨by rfl, ?_⟩) hHeld ?_
      rotate_left
      · (intro w hSw; go_simp; (try with_reducible rfl))
      simp only [Act.put, List.getElem_toArray, List.getElem_cons_zero, List.getElem_cons_succ, List.setIfInBounds_toArray, List.set_cons_zero, List.set_cons_succ]
      refine wpAnyH_take (i := 6) (v := ?_) rfl (by kernel_rfl) (by kernel_rfl) (by kernel_rfl) (fun _ _ _ h => h) (Or.inl ⟨by rfl, ?_⟩) hHeld ?_
      rotate_left
      · (intro w hSw; go_simp; (try with_reducible rfl))
      simp only [Act.put, List.getElem_toArray, List.getElem_cons_zero, List.getElem_cons_succ, List.setIfInBounds_toArray, List.set_cons_zero, List.set_cons_succ]
      refine wpAnyH_ready (rs := [2]) (by kernel_rfl) (by simp) ?_
      refine AllReadyH.cons rfl (fun K hK => ?_) AllReadyH.nil
      simp only [List.getElem_toArray, List.getElem_cons_zero, List.getElem_cons_succ]
      go_simp
      refine (HP.out _ hHeld).mono ?_
      rintro e w7 ⟨A7, c7, rfl, hcc7, hb7⟩
      go_wp2_with fail
      have hB7 := keepB hb7 hHeld
      refine hK.out _ _ hB7 (fun _ => ?_)
      clear hK K
      try simp only [Act.put, List.setIfInBounds_toArray, List.set_cons_zero, List.set_cons_succ]
      refine anyH_rebase hB7 (fun hHeld => ?_)
      refine wpAnyH_take (i := 3) (v := ?_) rfl (by kernel_rfl) (by kernel_rfl) (by kernel_rfl) (fun _ _ _ h => h) (Or.inl ⟨by rfl, ?_⟩) hHeld ?_
      rotate_left
      · (intro w hSw; go_simp; (try with_reducible rfl))
      simp only [Act.put, List.getElem_toArray, List.getElem_cons_zero, List.getElem_cons_succ, List.setIfInBounds_toArray, List.set_cons_zero, List.set_cons_succ]
      refine wpAnyH_ready (rs := [7]) (by kernel_rfl) (by simp) ?_
      refine AllReadyH.cons rfl (fun K hK => ?_) AllReadyH.nil
      simp only [List.getElem_toArray, List.getElem_cons_zero, List.getElem_cons_succ]
      go_simp
      refine (HR.out _ (keepB hHeld hB7)).mono ?_
      rintro e w8 ⟨A8, c8, rfl, hcc8, hb8⟩
      go_wp2_with fail
      have hB8 := keepB hb8 hHeld
      refine hK.out _ _ hB8 (fun _ => ?_)
      clear hK K
      try simp only [Act.put, List.setIfInBounds_toArray, List.set_cons_zero, List.set_cons_succ]
      refine anyH_rebase hB8 (fun hHeld => ?_)
      refine wpAnyH_take (i := 8) (v := ?_) rfl (by kernel_rfl) (by kernel_rfl) (by kernel_rfl) (fun _ _ _ h => h) (Or.inl ⟨by rfl, ?_⟩) hHeld ?_
      rotate_left
      · (intro w hSw; go_simp; (try with_reducible rfl))
      simp only [Act.put, List.getElem_toArray, List.getElem_cons_zero, List.getElem_cons_succ, List.setIfInBounds_toArray, List.set_cons_zero, List.set_cons_succ]
      refine wpAnyH_take (i := 9) (v := ?_) rfl (by kernel_rfl) (by kernel_rfl) (by kernel_rfl) (fun _ _ _ h => h) (Or.inl ⟨by rfl, ?_⟩) hHeld ?_
      rotate_left
      · (intro w hSw; go_simp; (try with_reducible rfl))
      simp only [Act.put, List.getElem_toArray, List.getElem_cons_zero, List.getElem_cons_succ, List.setIfInBounds_toArray, List.set_cons_zero, List.set_cons_succ]
      refine wpAnyH_take (i := 10) (v := ?_) rfl (by kernel_rfl) (by kernel_rfl) (by kernel_rfl) (fun _ _ _ h => h) (Or.inl ⟨by rfl, ?_⟩) hHeld ?_
      rotate_left
      · (intro w hSw; go_simp; (try with_reducible rfl))
      simp only [Act.put, List.getElem_toArray, List.getElem_cons_zero, List.getElem_cons_succ, List.setIfInBounds_toArray, List.set_cons_zero, List.set_cons_succ]
      refine wpAnyH_take (i := 11) (v := ?_) rfl (by kernel_rfl) (by kernel_rfl) (by kernel_rfl) (fun _ _ _ h => h) (Or.inl ⟨by rfl, ?_⟩) hHeld ?_
      rotate_left
      · (intro w hSw; go_simp; (try with_reducible rfl))
      simp only [Act.put, List.getElem_toArray, List.getElem_cons_zero, List.getElem_cons_succ, List.setIfInBounds_toArray, List.set_cons_zero, List.set_cons_succ]
      refine wpAnyH_take (i := 12) (v := ?_) rfl (by kernel_rfl) (by kernel_rfl) (by kernel_rfl) (fun _ _ _ h => h) (Or.inl ⟨by rfl, ?_⟩) hHeld ?_
      rotate_left
      · (intro w hSw; go_simp; (try with_reducible rfl))
      simp only [Act.put, List.getElem_toArray, List.getElem_cons_zero, List.getElem_cons_succ, List.setIfInBounds_toArray, List.set_cons_zero, List.set_cons_succ]
      refine wpAnyH_take (i := 14) (v := ?_) rfl (by kernel_rfl) (by kernel_rfl) (by kernel_rfl) (fun _ _ _ h => h) (Or.inl ⟨by rfl, ?_⟩) hHeld ?_
      rotate_left
      · (intro w hSw; go_simp; (try with_reducible rfl))
      simp only [Act.put, List.getElem_toArray, List.getElem_cons_zero, List.getElem_cons_succ, List.setIfInBounds_toArray, List.set_cons_zero, List.set_cons_succ]
      refine wpAnyH_ready (rs := [13]) (by kernel_rfl) (by simp) ?_
      refine AllReadyH.cons rfl (fun K hK => ?_) AllReadyH.nil
      simp only [List.getElem_toArray, List.getElem_cons_zero, List.getElem_cons_succ]
      go_simp
      refine (HZ.out _).mono ?_
      rintro e w9 ⟨rfl, rfl⟩
      have hbZ : Below w8.heap.size w8 w8 := Below.refl _ _
      go_wp2_with fail
      have hB9 := keepB hbZ hHeld
      refine hK.out _ _ hB9 (fun _ => ?_)
      clear hK K
      try simp only [Act.put, List.setIfInBounds_toArray, List.set_cons_zero, List.set_cons_succ]
      refine anyH_rebase hB9 (fun hHeld => ?_)
      refine wpAnyH_ready (rs := [15]) (by kernel_rfl) (by simp) ?_
      refine AllReadyH.cons rfl (fun K hK => ?_) AllReadyH.nil
      simp only [List.getElem_toArray, List.getElem_cons_zero, List.getElem_cons_succ]
      go_simp
      refine (HR.out _ (keepB hB9 (keepB hB8 hB7))).mono ?_
      rintro e w10 ⟨A10, c10, rfl, hcc10, hb10⟩
      go_wp2_with fail
      have hB10 := keepB hb10 hHeld
      refine hK.out _ _ hB10 (fun _ => ?_)
      clear hK K
      try simp only [Act.put, List.setIfInBounds_toArray, List.set_cons_zero, List.set_cons_succ]
      refine anyH_rebase hB10 (fun hHeld => ?_)
      refine wpAnyH_take (i := 16) (v := ?_) rfl (by kernel_rfl) (by kernel_rfl) (by kernel_rfl) (fun _ _ _ h => h) (Or.inl ⟨by rfl, ?_⟩) hHeld ?_
      rotate_left
      · (intro w hSw; go_simp; (try with_reducible rfl))
      simp only [Act.put, List.getElem_toArray, List.getElem_cons_zero, List.getElem_cons_succ, List.setIfInBounds_toArray, List.set_cons_zero, List.set_cons_succ]
      refine wpAnyH_take (i := 17) (v := ?_) rfl (by kernel_rfl) (by kernel_rfl) (by kernel_rfl) (fun _ _ _ h => h) (Or.inl ⟨by rfl, ?_⟩) hHeld ?_
      rotate_left
      · (intro w hSw; go_simp; (try with_reducible rfl))
      simp only [Act.put, List.getElem_toArray, List.getElem_cons_zero, List.getElem_cons_succ, List.setIfInBounds_toArray, List.set_cons_zero, List.set_cons_succ]
      refine wpAnyH_take (i := 18) (v := ?_) rfl (by kernel_rfl) (by kernel_rfl) (by kernel_rfl) (fun _ _ _ h => h) (Or.inl ⟨by rfl, ?_⟩) hHeld ?_
      rotate_left
      · (intro w hSw; go_simp; (try with_reducible rfl))
      simp only [Act.put, List.getElem_toArray, List.getElem_cons_zero, List.getElem_cons_succ, List.setIfInBounds_toArray, List.set_cons_zero, List.set_cons_succ]
      refine wpAnyH_done (by kernel_rfl) ?_ _
      have hbel8 := hB7.trans (hB8.mono hB7.size)
      have hbel10 := hbel8.trans (hB10.mono hbel8.size)
      have hbel11 := hbel.trans (hbel10.mono hs)
      clear hHeld hcc7 hcc8 hcc10 hb7 hb8 hB8 hb10 hB9 hB10 hbZ HP HR HZ hcb hB7 hbel8 hbel10
      go_wp2_with fail
      go_roundw
      case rel => exact ⟨k + 1, by go_num, by omega, hbel11⟩
      case measure => simp [intOf]; omega
    · go_wp2_with fail
      refine (numBytes_same A3 A n c3 n c bs _ _ _ (HN3.out.below hbel) (HN.out.below Hbw.out)).mono ?_
      rintro e w9 ⟨rfl, rfl⟩
      go_wp2_with fail
      go_ret
      exact ⟨rfl, Hbw.out⟩
set_option maxHeartbeats 1000000 in
theorem wirePuts_walk (A : Option Addr) (n c : Nat) (bs : List Int) (A2 : Option Addr) (n2 c2 : Nat) (l : List Int) (w : World) (hN : Nums .u8 w w.heap.size A n bs) (_ : n ≤ c) (hb : byB bs) (hN2 : Nums .i64 w w.heap.size A2 n2 l) (_ : n2 ≤ c2) (hl : ∀ x ∈ l, i64B x) :
    Calls Try.prog 3 #[.slice A n c, .slice A2 n2 c2] w fun e w' => e = .returned (.bool true) ∧ Below w.heap.size w w' := by
  by_cases h1 : 200 < n
  · clear hN hb hN2 hl
    go_enter Try.func3, Try.ntmps3
    go_wp2_with fail
    refine (alive_true _).mono ?_
    rintro e w1 ⟨rfl, hb1⟩
    go_wp2_with fail
    go_ret
    exact ⟨rfl, hb1⟩
  · by_cases h2 : 200 < n2
    · clear hN hb hN2 hl
      go_enter Try.func3, Try.ntmps3
      go_wp2_with fail
      refine (alive_true _).mono ?_
      rintro e w1 ⟨rfl, hb1⟩
      go_wp2_with fail
      go_ret
      exact ⟨rfl, hb1⟩
    · exact wirePuts_region A n c bs A2 n2 c2 l w hN hl hN2 hb (by omega) (by omega)
end Go.Proofs.Ytlodnfdpphbppaa
