/- Layer 2: WireApart, walked. -/
import Derived.Test.YtlodnfdpphbppaaWireP
namespace Go.Proofs.Ytlodnfdpphbppaa
open Go.RowKit Wx
theorem flat_posQ (s : List Int) : s.length ≤ (s.flatMap bts).length := by
  induction s with
  | nil => simp
  | cons a s ih => have := bts_len a; simp only [List.flatMap_cons, List.length_append, List.length_cons]; omega
theorem str_beq {a b : List Int} (ha : byB a) (hb : byB b) (q : Bool) (h : q = decide (a = b)) : ((strOfNums a).toList == (strOfNums b).toList) = q := by
  rw [ByteArray.toList_eq, ByteArray.toList_eq, h, Bool.eq_iff_iff, beq_iff_eq, decide_eq_true_iff, ← str_inj ha hb]
  constructor
  · intro e; exact ByteArray.ext (Array.toList_inj.1 e)
  · intro e; rw [e]
set_option linter.unusedSimpArgs false in
set_option maxHeartbeats 2000000 in
theorem wireApart_main (A : Option Addr) (n c : Nat) (a : List Int) (A2 : Option Addr) (n2 c2 : Nat) (b : List Int) (A3 : Option Addr) (n3 c3 : Nat) (raw : List Int) (w : World) (hN : Nums .i64 w w.heap.size A n a) (hl : ∀ x ∈ a, i64B x) (hN2 : Nums .i64 w w.heap.size A2 n2 b) (hl2 : ∀ x ∈ b, i64B x) (hN3 : Nums .u8 w w.heap.size A3 n3 raw) (hc3 : n3 ≤ c3) (hb : byB raw) (hn : n ≤ 300) (hn2 : n2 ≤ 300) (hn3 : n3 ≤ 300) :
    Calls Try.prog 6 #[.slice A n c, .slice A2 n2 c2, .slice A3 n3 c3] w fun e w' => e = .returned (.bool true) ∧ Below w.heap.size w w' := by
  have Hlen := Lib.hid hN.len
  have Hlen2 := Lib.hid hN2.len
  have Hlen3 := Lib.hid hN3.len
  have HN := Lib.hid hN
  have HN2 := Lib.hid hN2
  have HN3 := Lib.hid hN3
  have HL := Lib.hid hl
  have HL2 := Lib.hid hl2
  have HB := Lib.hid hb
  clear hN hN2 hN3 hl hl2 hb
  go_enter Try.func6, Try.ntmps6
  go_wp2_with fail
  refine (alive_true _).mono ?_
  rintro e w1 ⟨rfl, hb1⟩
  have hs1 := hb1.size
  go_wp2_with fail
  refine (putList_any none 0 0 [] A n c a _ w.heap.size Nums.none_ (HN.out.below hb1) HL.out hs1 (by omega) (by omega)).mono ?_
  rintro e w2 ⟨A4, m4, c4, rfl, hown4, hb2⟩
  have hbel2 := hb1.trans (hb2.mono hs1)
  have hs2 := hbel2.size
  go_wp2_with fail
  refine (putList_any none 0 0 [] A2 n2 c2 b _ w.heap.size Nums.none_ (HN2.out.below hbel2) HL2.out hs2 (by omega) (by omega)).mono ?_
  rintro e w3 ⟨A5, m5, c5, rfl, hown5, hb3⟩
  have hbel3 := hbel2.trans (hb3.mono hs2)
  have hs3 := hbel3.size
  have hown4b := hown4.below hb3 (Nat.le_refl _)
  rw [List.nil_append] at hown4b hown5
  have hc4 := hown4b.cap
  have hc5 := hown5.cap
  obtain ⟨k, hk⟩ : ∃ k, k = min m4 m5 := ⟨_, rfl⟩
  obtain ⟨A6, hsl6, hN6⟩ := cut_to (P := Try.prog) hown4b.nums hc4 (i := k) (by omega) 22 (by kernel_rfl) (fun _ => by kernel_rfl)
  obtain ⟨A7, hsl7, hN7⟩ := cut_to (P := Try.prog) hown5.nums hc5 (i := k) (by omega) 22 (by kernel_rfl) (fun _ => by kernel_rfl)
  have Hk : Hid (k = min (lst a).length (lst b).length) := by show _ = _; rw [hown4b.len, hown5.len]; exact hk
  have HK := Lib.hid hk
  have HN6 := Lib.hid hN6
  have HN7 := Lib.hid hN7
  clear hown4 hown4b hown5 hb2 hb3 hb1 hs1 hbel2 hs2 hN6 hN7 hk
  go_wp2_with fail
  rw [show (min (m4 : Int) (m5 : Int)) = (k : Int) from by have := HK.out; omega]
  obtain ⟨s6, hs6⟩ : ∃ s, s = strOfNums ((lst a).take k) := ⟨_, rfl⟩
  obtain ⟨s7, hs7⟩ : ∃ s, s = strOfNums ((lst b).take k) := ⟨_, rfl⟩
  have hc6 : ∀ W, Below w3.heap.size w3 W → (convert 22 9 (.slice A6 k c4)).run Try.prog W = .ok (.string s6) W := fun W hW => by
    rw [hs6]; exact string_at (HN6.out.below hW)
  have hc7 : ∀ W, Below w3.heap.size w3 W → (convert 22 9 (.slice A7 k c5)).run Try.prog W = .ok (.string s7) W := fun W hW => by
    rw [hs7]; exact string_at (HN7.out.below hW)
  obtain ⟨q, hq⟩ : ∃ q, q = decide (a = b) := ⟨_, rfl⟩
  have hla : a.length ≤ 9223372036854775807 := by have := Hlen.out; omega
  have hlb : b.length ≤ 9223372036854775807 := by have := Hlen2.out; omega
  have hpre := pre_eq HL.out HL2.out hla hlb
  rw [← Hk.out] at hpre
  have hbeq : (s6.toList == s7.toList) = q := by
    rw [hs6, hs7]
    refine str_beq (byB_take _ (lst_byB HL.out hla)) (byB_take _ (lst_byB HL2.out hlb)) q ?_
    rw [hq, decide_eq_decide]; exact hpre.symm
  have HI : Hid (∀ W, Below w3.heap.size w3 W → Calls Try.prog 19 #[.slice A n c, .slice A2 n2 c2] W fun e w' => e = .returned (.bool q) ∧ Below W.heap.size W w') := fun W hW =>
    (ints_any A A2 n c n2 c2 a b W _ _ (HN.out.below (hbel3.trans (hW.mono hs3))) (HN2.out.below (hbel3.trans (hW.mono hs3))) (by omega) (by omega)).mono fun e w' h => by
      obtain ⟨h1, m, h2⟩ := h
      subst h2
      exact ⟨by rw [h1, hq], below_drewN (Below.refl _ _) m⟩
  clear hla hlb hpre hq hs6 hs7
  refine region_below (by kernel_rfl) (fun hHeld => ?_)
  refine wpAnyH_take (i := 0) (v := ?_) rfl (by kernel_rfl) (by kernel_rfl) (by kernel_rfl) (fun _ _ _ h => h) (Or.inl ⟨by rfl, ?_⟩) hHeld ?_
  rotate_left
  · (intro w hSw; go_simp; (try with_reducible rfl))
  simp only [Act.put, List.getElem_toArray, List.getElem_cons_zero, List.getElem_cons_succ, List.setIfInBounds_toArray, List.set_cons_zero, List.set_cons_succ]
  refine wpAnyH_take (i := 1) (v := ?_) rfl (by kernel_rfl) (by kernel_rfl) (by kernel_rfl) (fun _ _ _ h => h) (Or.inl ⟨by rfl, ?_⟩) hHeld ?_
  rotate_left
  · (intro w hSw; go_simp; (try with_reducible rfl))
  simp only [Act.put, List.getElem_toArray, List.getElem_cons_zero, List.getElem_cons_succ, List.setIfInBounds_toArray, List.set_cons_zero, List.set_cons_succ]
  refine wpAnyH_take (i := 2) (v := ?_) rfl (by kernel_rfl) (by kernel_rfl) (by kernel_rfl) (fun _ _ _ h => h) (Or.inl ⟨by rfl, ?_⟩) hHeld ?_
  rotate_left
  · (intro w hSw; go_simp; (try with_reducible rfl))
  simp only [Act.put, List.getElem_toArray, List.getElem_cons_zero, List.getElem_cons_succ, List.setIfInBounds_toArray, List.set_cons_zero, List.set_cons_succ]
  refine wpAnyH_take (i := 3) (v := ?_) rfl (by kernel_rfl) (by kernel_rfl) (by kernel_rfl) (fun _ _ _ h => h) (Or.inl ⟨by rfl, ?_⟩) hHeld ?_
  rotate_left
  · (intro w hSw; go_simp; (try with_reducible rfl))
  simp only [Act.put, List.getElem_toArray, List.getElem_cons_zero, List.getElem_cons_succ, List.setIfInBounds_toArray, List.set_cons_zero, List.set_cons_succ]
  refine wpAnyH_take (i := 4) (v := ?_) rfl (by kernel_rfl) (by kernel_rfl) (by kernel_rfl) (fun _ _ _ h => h) (Or.inl ⟨by rfl, ?_⟩) hHeld ?_
  rotate_left
  · (intro w hSw; go_simp; (try with_reducible rfl))
  simp only [Act.put, List.getElem_toArray, List.getElem_cons_zero, List.getElem_cons_succ, List.setIfInBounds_toArray, List.set_cons_zero, List.set_cons_succ]
  refine wpAnyH_take (i := 5) (v := ?_) rfl (by kernel_rfl) (by kernel_rfl) (by kernel_rfl) (fun _ _ _ h => h) (Or.inl ⟨by rfl, ?_⟩) hHeld ?_
  rotate_left
  · (intro w hSw; go_simp; (try with_reducible rfl))
  simp only [Act.put, List.getElem_toArray, List.getElem_cons_zero, List.getElem_cons_succ, List.setIfInBounds_toArray, List.set_cons_zero, List.set_cons_succ]
  refine wpAnyH_take (i := 6) (v := ?_) rfl (by kernel_rfl) (by kernel_rfl) (by kernel_rfl) (fun _ _ _ h => h) (Or.inl ⟨by rfl, ?_⟩) hHeld ?_
  rotate_left
  · (intro w hSw; go_simp; (try with_reducible rfl))
  simp only [Act.put, List.getElem_toArray, List.getElem_cons_zero, List.getElem_cons_succ, List.setIfInBounds_toArray, List.set_cons_zero, List.set_cons_succ]
  refine wpAnyH_take (i := 7) (v := ?_) rfl (by kernel_rfl) (by kernel_rfl) (by kernel_rfl) (fun _ _ _ h => h) (Or.inl ⟨by rfl, ?_⟩) hHeld ?_
  rotate_left
  · (intro w hSw; go_simp; (try with_reducible rfl))
  simp only [Act.put, List.getElem_toArray, List.getElem_cons_zero, List.getElem_cons_succ, List.setIfInBounds_toArray, List.set_cons_zero, List.set_cons_succ]
  refine wpAnyH_take (i := 8) (v := ?_) rfl (by kernel_rfl) (by kernel_rfl) (by kernel_rfl) (fun _ _ _ h => h) (Or.inl ⟨by rfl, ?_⟩) hHeld ?_
  rotate_left
  · (intro w hSw; go_simp; (try with_reducible rfl))
  simp only [Act.put, List.getElem_toArray, List.getElem_cons_zero, List.getElem_cons_succ, List.setIfInBounds_toArray, List.set_cons_zero, List.set_cons_succ]
  refine wpAnyH_take (i := 9) (v := ?_) rfl (by kernel_rfl) (by kernel_rfl) (by kernel_rfl) (fun _ _ _ h => h) (Or.inl ⟨by rfl, ?_⟩) hHeld ?_
  rotate_left
  · (intro w hSw; go_simp; (try with_reducible rfl))
  simp only [Act.put, List.getElem_toArray, List.getElem_cons_zero, List.getElem_cons_succ, List.setIfInBounds_toArray, List.set_cons_zero, List.set_cons_succ]
  refine wpAnyH_take (i := 10) (v := ?_) rfl (by kernel_rfl) (by kernel_rfl) (by kernel_rfl) (fun _ _ _ h => h) (Or.inl ⟨by rfl, ?_⟩) hHeld ?_
  rotate_left
  · (intro w hSw; go_simp; (try with_reducible rfl))
  simp only [Act.put, List.getElem_toArray, List.getElem_cons_zero, List.getElem_cons_succ, List.setIfInBounds_toArray, List.set_cons_zero, List.set_cons_succ]
  refine wpAnyH_ready (rs := [11]) (by kernel_rfl) (by simp) ?_
  refine AllReadyH.cons rfl (fun K hK => ?_) AllReadyH.nil
  simp only [List.getElem_toArray, List.getElem_cons_zero, List.getElem_cons_succ]
  go_simp
  refine (HI.out _ hHeld).mono ?_
  rintro e w4 ⟨rfl, hb4⟩
  go_wp2_with fail
  have hB4 := keepB hb4 hHeld
  refine hK.out _ _ hB4 (fun _ => ?_)
  clear hK K
  try simp only [Act.put, List.setIfInBounds_toArray, List.set_cons_zero, List.set_cons_succ]
  refine anyH_rebase hB4 (fun hHeld => ?_)
  refine wpAnyH_take (i := 12) (v := ?_) rfl (by kernel_rfl) (by kernel_rfl) (by kernel_rfl) (fun _ _ _ h => h) (Or.inl ⟨by rfl, ?_⟩) hHeld ?_
  rotate_left
  · (intro w hSw; go_simp; (try with_reducible rfl))
  simp only [Act.put, List.getElem_toArray, List.getElem_cons_zero, List.getElem_cons_succ, List.setIfInBounds_toArray, List.set_cons_zero, List.set_cons_succ]
  refine wpAnyH_done (by kernel_rfl) ?_ _
  have hbel4 := hbel3.trans (hB4.mono hs3)
  have hs4 := hbel4.size
  clear hHeld hb4 hB4 HI hbeq hc6 hc7 hsl6 hsl7 hbel3 hs3
  go_wp2_with fail
  obtain ⟨r, k3, e0, ht⟩ : ∃ r k3 e0, tl raw 400 = (r, k3, e0) := ⟨_, _, _, rfl⟩
  have HT := Lib.hid ht
  rcases tl_range HB.out 400 ht with ⟨g1, g2, g3⟩ | ⟨g1, g2, g3, g4⟩
  · have HE : Hid (e0 ≠ 0) := by show e0 ≠ 0; omega
    clear ht g3
    refine (takeList_bad A3 n3 c3 raw 400 _ _ (HN3.out.below hbel4) hc3 HB.out hs4 (by omega) r k3 e0 HE.out HT.out).mono ?_
    rintro e w5 ⟨rfl, hb5⟩
    have hbel5 := hbel4.trans (hb5.mono hs4)
    go_wp2_with fail
    refine region_below (by kernel_rfl) (fun hHeld => ?_)
    refine wpAnyH_take (i := 0) (v := ?_) rfl (by kernel_rfl) (by kernel_rfl) (by kernel_rfl) (fun _ _ _ h => h) (Or.inl ⟨by rfl, ?_⟩) hHeld ?_
    rotate_left
    · (intro w hSw; go_simp; (try with_reducible rfl))
    simp only [Act.put, List.getElem_toArray, List.getElem_cons_zero, List.getElem_cons_succ, List.setIfInBounds_toArray, List.set_cons_zero, List.set_cons_succ]
    refine wpAnyH_take (i := 1) (v := ?_) rfl (by kernel_rfl) (by kernel_rfl) (by kernel_rfl) (fun _ _ _ h => h) (Or.inl ⟨by rfl, ?_⟩) hHeld ?_
    rotate_left
    · (intro w hSw; go_simp; (try with_reducible rfl))
    simp only [Act.put, List.getElem_toArray, List.getElem_cons_zero, List.getElem_cons_succ, List.setIfInBounds_toArray, List.set_cons_zero, List.set_cons_succ]
    refine wpAnyH_take (i := 2) (v := ?_) rfl (by kernel_rfl) (by kernel_rfl) (by kernel_rfl) (fun _ _ _ h => h) (Or.inl ⟨by rfl, ?_⟩) hHeld ?_
    rotate_left
    · (intro w hSw; go_simp; (try with_reducible rfl))
    simp only [Act.put, List.getElem_toArray, List.getElem_cons_zero, List.getElem_cons_succ, List.setIfInBounds_toArray, List.set_cons_zero, List.set_cons_succ]
    refine wpAnyH_take (i := 3) (v := undef) rfl (by kernel_rfl) (by kernel_rfl) (by kernel_rfl) (fun _ _ _ h => h) (Or.inr ⟨by rfl, rfl⟩) hHeld ?_
    simp only [Act.put, List.getElem_toArray, List.getElem_cons_zero, List.getElem_cons_succ, List.setIfInBounds_toArray, List.set_cons_zero, List.set_cons_succ]
    refine wpAnyH_take (i := 4) (v := undef) rfl (by kernel_rfl) (by kernel_rfl) (by kernel_rfl) (fun _ _ _ h => h) (Or.inr ⟨by rfl, rfl⟩) hHeld ?_
    simp only [Act.put, List.getElem_toArray, List.getElem_cons_zero, List.getElem_cons_succ, List.setIfInBounds_toArray, List.set_cons_zero, List.set_cons_succ]
    refine wpAnyH_take (i := 5) (v := undef) rfl (by kernel_rfl) (by kernel_rfl) (by kernel_rfl) (fun _ _ _ h => h) (Or.inr ⟨by rfl, rfl⟩) hHeld ?_
    simp only [Act.put, List.getElem_toArray, List.getElem_cons_zero, List.getElem_cons_succ, List.setIfInBounds_toArray, List.set_cons_zero, List.set_cons_succ]
    refine wpAnyH_take (i := 6) (v := undef) rfl (by kernel_rfl) (by kernel_rfl) (by kernel_rfl) (fun _ _ _ h => h) (Or.inr ⟨by rfl, rfl⟩) hHeld ?_
    simp only [Act.put, List.getElem_toArray, List.getElem_cons_zero, List.getElem_cons_succ, List.setIfInBounds_toArray, List.set_cons_zero, List.set_cons_succ]
    refine wpAnyH_take (i := 7) (v := undef) rfl (by kernel_rfl) (by kernel_rfl) (by kernel_rfl) (fun _ _ _ h => h) (Or.inr ⟨by rfl, rfl⟩) hHeld ?_
    simp only [Act.put, List.getElem_toArray, List.getElem_cons_zero, List.getElem_cons_succ, List.setIfInBounds_toArray, List.set_cons_zero, List.set_cons_succ]
    refine wpAnyH_take (i := 8) (v := undef) rfl (by kernel_rfl) (by kernel_rfl) (by kernel_rfl) (fun _ _ _ h => h) (Or.inr ⟨by rfl, rfl⟩) hHeld ?_
    simp only [Act.put, List.getElem_toArray, List.getElem_cons_zero, List.getElem_cons_succ, List.setIfInBounds_toArray, List.set_cons_zero, List.set_cons_succ]
    refine wpAnyH_take (i := 9) (v := undef) rfl (by kernel_rfl) (by kernel_rfl) (by kernel_rfl) (fun _ _ _ h => h) (Or.inr ⟨by rfl, rfl⟩) hHeld ?_
    simp only [Act.put, List.getElem_toArray, List.getElem_cons_zero, List.getElem_cons_succ, List.setIfInBounds_toArray, List.set_cons_zero, List.set_cons_succ]
    refine wpAnyH_take (i := 10) (v := undef) rfl (by kernel_rfl) (by kernel_rfl) (by kernel_rfl) (fun _ _ _ h => h) (Or.inr ⟨by rfl, rfl⟩) hHeld ?_
    simp only [Act.put, List.getElem_toArray, List.getElem_cons_zero, List.getElem_cons_succ, List.setIfInBounds_toArray, List.set_cons_zero, List.set_cons_succ]
    refine wpAnyH_take (i := 11) (v := undef) rfl (by kernel_rfl) (by kernel_rfl) (by kernel_rfl) (fun _ _ _ h => h) (Or.inr ⟨by rfl, rfl⟩) hHeld ?_
    simp only [Act.put, List.getElem_toArray, List.getElem_cons_zero, List.getElem_cons_succ, List.setIfInBounds_toArray, List.set_cons_zero, List.set_cons_succ]
    refine wpAnyH_take (i := 12) (v := ?_) rfl (by kernel_rfl) (by kernel_rfl) (by kernel_rfl) (fun _ _ _ h => h) (Or.inl ⟨by rfl, ?_⟩) hHeld ?_
    rotate_left
    · (intro w hSw; go_simp; (try with_reducible rfl))
    simp only [Act.put, List.getElem_toArray, List.getElem_cons_zero, List.getElem_cons_succ, List.setIfInBounds_toArray, List.set_cons_zero, List.set_cons_succ]
    refine wpAnyH_take (i := 13) (v := ?_) rfl (by kernel_rfl) (by kernel_rfl) (by kernel_rfl) (fun _ _ _ h => h) (Or.inl ⟨by rfl, ?_⟩) hHeld ?_
    rotate_left
    · (intro w hSw; go_simp; (try with_reducible rfl))
    simp only [Act.put, List.getElem_toArray, List.getElem_cons_zero, List.getElem_cons_succ, List.setIfInBounds_toArray, List.set_cons_zero, List.set_cons_succ]
    refine wpAnyH_done (by kernel_rfl) ?_ _
    go_wp2_with fail
    go_ret
    exact ⟨rfl, hbel5.drew⟩
  · subst g1
    have hrl : r.length ≤ 300 := by
      have e1 := congrArg List.length g4
      have e2 := flat_posQ r
      have e3 := Hlen3.out
      unfold lst at e1
      simp only [List.length_append] at e1
      omega
    have HR := Lib.hid g3
    have HG := Lib.hid g4
    clear ht g3 g4
    refine (takeList_ok A3 n3 c3 raw 400 _ _ (HN3.out.below hbel4) hc3 HB.out hs4 (by omega) r k3 HT.out).mono ?_
    rintro e w5 ⟨A8, m8, c8, A9, m9, c9, rfl, hown8, hown9, hb5⟩
    have hbel5 := hbel4.trans (hb5.mono hs4)
    have hs5 := hbel5.size
    have hm8 : m8 ≤ 300 := by have := hown8.len; omega
    obtain ⟨s1, hs1⟩ : ∃ s, s = strOfNums (lst r) := ⟨_, rfl⟩
    obtain ⟨s2, hs2⟩ : ∃ s, s = strOfNums (raw.drop k3) := ⟨_, rfl⟩
    have hcat : ¬ 9223372036854775807 < s1.size + s2.size := by
      have e1 := congrArg List.length HG.out
      have e3 := Hlen3.out
      rw [List.length_append] at e1
      rw [hs1, hs2, strOfNums_size, strOfNums_size]; omega
    obtain ⟨L, hL⟩ : ∃ L, L = (lst r).length := ⟨_, rfl⟩
    have HPL : Hid (∀ W, Below w5.heap.size w5 W → Calls Try.prog 8 #[.slice none 0 0, .slice A8 m8 c8] W (MadeS 22 9 Try.prog W L s1)) := fun W hW =>
      (putList_any none 0 0 [] A8 m8 c8 r W w5.heap.size Nums.none_ (hown8.nums.below hW) HR.out hW.size (by omega) (by omega)).mono fun e w' h =>
        madeS_of h (by rw [hs1, List.nil_append]) hL.symm
    have hc9 : ∀ W, Below w5.heap.size w5 W → (convert 22 9 (.slice A9 m9 c9)).run Try.prog W = .ok (.string s2) W := fun W hW => by
      rw [hs2]; exact string_at (hown9.nums.below hW)
    have hcr : ∀ W, Below w5.heap.size w5 W → (convert 22 9 (.slice A3 n3 c3)).run Try.prog W = .ok (.string (s1 ++ s2)) W := fun W hW => by
      rw [hs1, hs2, str_append, ← HG.out]; exact string_at (HN3.out.below (hbel5.trans (hW.mono hs5)))
    clear hs1 hs2 hL hown8 hown9 hb5
    go_wp2_with fail
    refine region_below (by kernel_rfl) (fun hHeld => ?_)
    refine wpAnyH_take (i := 0) (v := ?_) rfl (by kernel_rfl) (by kernel_rfl) (by kernel_rfl) (fun _ _ _ h => h) (Or.inl ⟨by rfl, ?_⟩) hHeld ?_
    rotate_left
    · (intro w hSw; go_simp; (try with_reducible rfl))
    simp only [Act.put, List.getElem_toArray, List.getElem_cons_zero, List.getElem_cons_succ, List.setIfInBounds_toArray, List.set_cons_zero, List.set_cons_succ]
    refine wpAnyH_take (i := 1) (v := ?_) rfl (by kernel_rfl) (by kernel_rfl) (by kernel_rfl) (fun _ _ _ h => h) (Or.inl ⟨by rfl, ?_⟩) hHeld ?_
    rotate_left
    · (intro w hSw; go_simp; (try with_reducible rfl))
    simp only [Act.put, List.getElem_toArray, List.getElem_cons_zero, List.getElem_cons_succ, List.setIfInBounds_toArray, List.set_cons_zero, List.set_cons_succ]
    refine wpAnyH_take (i := 2) (v := ?_) rfl (by kernel_rfl) (by kernel_rfl) (by kernel_rfl) (fun _ _ _ h => h) (Or.inl ⟨by rfl, ?_⟩) hHeld ?_
    rotate_left
    · (intro w hSw; go_simp; (try with_reducible rfl))
    simp only [Act.put, List.getElem_toArray, List.getElem_cons_zero, List.getElem_cons_succ, List.setIfInBounds_toArray, List.set_cons_zero, List.set_cons_succ]
    refine wpAnyH_take (i := 3) (v := ?_) rfl (by kernel_rfl) (by kernel_rfl) (by kernel_rfl) (fun _ _ _ h => h) (Or.inl ⟨by rfl, ?_⟩) hHeld ?_
    rotate_left
    · (intro w hSw; go_simp; (try with_reducible rfl))
    simp only [Act.put, List.getElem_toArray, List.getElem_cons_zero, List.getElem_cons_succ, List.setIfInBounds_toArray, List.set_cons_zero, List.set_cons_succ]
    refine wpAnyH_take (i := 6) (v := ?_) rfl (by kernel_rfl) (by kernel_rfl) (by kernel_rfl) (fun _ _ _ h => h) (Or.inl ⟨by rfl, ?_⟩) hHeld ?_
    rotate_left
    · (intro w hSw; go_simp; (try with_reducible rfl))
    simp only [Act.put, List.getElem_toArray, List.getElem_cons_zero, List.getElem_cons_succ, List.setIfInBounds_toArray, List.set_cons_zero, List.set_cons_succ]
    refine wpAnyH_take (i := 7) (v := ?_) rfl (by kernel_rfl) (by kernel_rfl) (by kernel_rfl) (fun _ _ _ h => h) (Or.inl ⟨by rfl, ?_⟩) hHeld ?_
    rotate_left
    · (intro w hSw; go_simp; (try with_reducible rfl))
    simp only [Act.put, List.getElem_toArray, List.getElem_cons_zero, List.getElem_cons_succ, List.setIfInBounds_toArray, List.set_cons_zero, List.set_cons_succ]
    refine wpAnyH_take (i := 9) (v := ?_) rfl (by kernel_rfl) (by kernel_rfl) (by kernel_rfl) (fun _ _ _ h => h) (Or.inl ⟨by rfl, ?_⟩) hHeld ?_
    rotate_left
    · (intro w hSw; go_simp; (try with_reducible rfl))
    simp only [Act.put, List.getElem_toArray, List.getElem_cons_zero, List.getElem_cons_succ, List.setIfInBounds_toArray, List.set_cons_zero, List.set_cons_succ]
    refine wpAnyH_take (i := 10) (v := ?_) rfl (by kernel_rfl) (by kernel_rfl) (by kernel_rfl) (fun _ _ _ h => h) (Or.inl ⟨by rfl, ?_⟩) hHeld ?_
    rotate_left
    · (intro w hSw; go_simp; (try with_reducible rfl))
    simp only [Act.put, List.getElem_toArray, List.getElem_cons_zero, List.getElem_cons_succ, List.setIfInBounds_toArray, List.set_cons_zero, List.set_cons_succ]
    refine wpAnyH_ready (rs := [4]) (by kernel_rfl) (by simp) ?_
    refine AllReadyH.cons rfl (fun K hK => ?_) AllReadyH.nil
    simp only [List.getElem_toArray, List.getElem_cons_zero, List.getElem_cons_succ]
    go_simp
    refine (HPL.out _ hHeld).mono ?_
    rintro e w6 ⟨A7, c7, rfl, hcc7, hb7⟩
    go_wp2_with fail
    have hB7 := keepB hb7 hHeld
    refine hK.out _ _ hB7 (fun _ => ?_)
    clear hK K
    try simp only [Act.put, List.setIfInBounds_toArray, List.set_cons_zero, List.set_cons_succ]
    refine anyH_rebase hB7 (fun hHeld => ?_)
    refine wpAnyH_take (i := 5) (v := ?_) rfl (by kernel_rfl) (by kernel_rfl) (by kernel_rfl) (fun _ _ _ h => h) (Or.inl ⟨by rfl, ?_⟩) hHeld ?_
    rotate_left
    · (intro w hSw; go_simp; (try with_reducible rfl))
    simp only [Act.put, List.getElem_toArray, List.getElem_cons_zero, List.getElem_cons_succ, List.setIfInBounds_toArray, List.set_cons_zero, List.set_cons_succ]
    refine wpAnyH_take (i := 8) (v := ?_) rfl (by kernel_rfl) (by kernel_rfl) (by kernel_rfl) (fun _ _ _ h => h) (Or.inl ⟨by rfl, ?_⟩) hHeld ?_
    rotate_left
    · (intro w hSw; go_simp; (try with_reducible rfl))
    simp only [Act.put, List.getElem_toArray, List.getElem_cons_zero, List.getElem_cons_succ, List.setIfInBounds_toArray, List.set_cons_zero, List.set_cons_succ]
    refine wpAnyH_take (i := 11) (v := ?_) rfl (by kernel_rfl) (by kernel_rfl) (by kernel_rfl) (fun _ _ _ h => h) (Or.inl ⟨by rfl, ?_⟩) hHeld ?_
    rotate_left
    · (intro w hSw; go_simp; (try with_reducible rfl))
    simp only [Act.put, List.getElem_toArray, List.getElem_cons_zero, List.getElem_cons_succ, List.setIfInBounds_toArray, List.set_cons_zero, List.set_cons_succ]
    refine wpAnyH_take (i := 12) (v := ?_) rfl (by kernel_rfl) (by kernel_rfl) (by kernel_rfl) (fun _ _ _ h => h) (Or.inl ⟨by rfl, ?_⟩) hHeld ?_
    rotate_left
    · (intro w hSw; go_simp; (try with_reducible rfl))
    simp only [Act.put, List.getElem_toArray, List.getElem_cons_zero, List.getElem_cons_succ, List.setIfInBounds_toArray, List.set_cons_zero, List.set_cons_succ]
    refine wpAnyH_take (i := 13) (v := ?_) rfl (by kernel_rfl) (by kernel_rfl) (by kernel_rfl) (fun _ _ _ h => h) (Or.inl ⟨by rfl, ?_⟩) hHeld ?_
    rotate_left
    · (intro w hSw; go_simp; (try with_reducible rfl))
    simp only [Act.put, List.getElem_toArray, List.getElem_cons_zero, List.getElem_cons_succ, List.setIfInBounds_toArray, List.set_cons_zero, List.set_cons_succ]
    refine wpAnyH_done (by kernel_rfl) ?_ _
    have hbel6 := hbel5.trans (hB7.mono hs5)
    go_wp2_with fail
    go_ret
    exact ⟨rfl, hbel6⟩
set_option maxHeartbeats 1000000 in
theorem wireApart_big (A : Option Addr) (n c : Nat) (A2 : Option Addr) (n2 c2 : Nat) (A3 : Option Addr) (n3 c3 : Nat) (w : World) (h : 300 < n ∨ 300 < n2 ∨ 300 < n3) :
    Calls Try.prog 6 #[.slice A n c, .slice A2 n2 c2, .slice A3 n3 c3] w fun e w' => e = .returned (.bool true) ∧ Below w.heap.size w w' := by
  by_cases h1 : 300 < n
  · clear h
    go_enter Try.func6, Try.ntmps6
    go_wp2_with fail
    refine (alive_true _).mono ?_
    rintro e w1 ⟨rfl, hb1⟩
    go_wp2_with fail
    go_ret
    exact ⟨rfl, hb1⟩
  · by_cases h2 : 300 < n2
    · clear h
      go_enter Try.func6, Try.ntmps6
      go_wp2_with fail
      refine (alive_true _).mono ?_
      rintro e w1 ⟨rfl, hb1⟩
      go_wp2_with fail
      go_ret
      exact ⟨rfl, hb1⟩
    · have h3 : 300 < n3 := by omega
      clear h
      go_enter Try.func6, Try.ntmps6
      go_wp2_with fail
      refine (alive_true _).mono ?_
      rintro e w1 ⟨rfl, hb1⟩
      go_wp2_with fail
      go_ret
      exact ⟨rfl, hb1⟩
theorem wireApart_walk (A : Option Addr) (n c : Nat) (a : List Int) (A2 : Option Addr) (n2 c2 : Nat) (b : List Int) (A3 : Option Addr) (n3 c3 : Nat) (raw : List Int) (w : World) (hN : Nums .i64 w w.heap.size A n a) (_ : n ≤ c) (hl : ∀ x ∈ a, i64B x) (hN2 : Nums .i64 w w.heap.size A2 n2 b) (_ : n2 ≤ c2) (hl2 : ∀ x ∈ b, i64B x) (hN3 : Nums .u8 w w.heap.size A3 n3 raw) (hc3 : n3 ≤ c3) (hb : byB raw) :
    Calls Try.prog 6 #[.slice A n c, .slice A2 n2 c2, .slice A3 n3 c3] w fun e w' => e = .returned (.bool true) ∧ Below w.heap.size w w' := by
  by_cases h : 300 < n ∨ 300 < n2 ∨ 300 < n3
  · exact wireApart_big A n c A2 n2 c2 A3 n3 c3 w h
  · exact wireApart_main A n c a A2 n2 c2 b A3 n3 c3 raw w hN hl hN2 hl2 hN3 hc3 hb (by omega) (by omega) (by omega)
end Go.Proofs.Ytlodnfdpphbppaa
