/- Layer 6: the contract of effect's take. -/
import Derived.Test.YtjijnapphbeahaaTreeC8
namespace Go.Proofs.Ytjijnapphbeahaa
open Go.RowKit Ex Wx
/-- What take answers of the bytes from p on. -/
def TakeCPost (f : Nat) (l : List Int) (p : Nat) (w : World) (e : Ending) (w' : World) : Prop := ∃ cs, e = .returned (.tuple #[.agg cs, .int .i64 (((if (tkT f l).2.2 = 0 then p + (tkT f l).2.1 else 0) : Nat) : Int), errV (tkT f l).2.2]) ∧
  ReadsQ (fun b => w.heap.size ≤ b ∧ b < w'.heap.size) w' (f + 1) cs (tkT f l).1 ∧ Below w.heap.size w w'
theorem takeC_bad {f p : Nat} {l : List Int} {w w' : World} {e : Int} (h : tkT f l = (zT, 0, e)) (he : e ≠ 0) (hb : Below w.heap.size w w') : TakeCPost f l p w (.returned (.tuple #[.agg zeroE, .int .i64 0, .iface 51 (.int .i64 e)])) w' :=
  ⟨zeroE, by rw [h, ← errV_err he]; simp [he], by rw [h]; exact zero_reads _ _ _, hb⟩
def C1Rel (w : World) (l : List Int) (p : Nat) (at_ i_ : Value) (wr : World) : Prop := ∃ (i a q : Nat) (xs : List Int), i_ = .int .i64 ((i : Nat) : Int) ∧ at_ = .int .i64 ((q : Nat) : Int) ∧ q = p + a ∧ i ≤ 5 ∧ rdN l i = (xs, a, 0) ∧ StK w xs wr
def C2Rel (w : World) (g : List Int → ET × Nat × Int) (l2 : List Int) (f P a0 N : Nat) (x0 x1 x2 x3 : Int) (xs : List Int) (a_ i_ : Value) (wz : World) : Prop :=
  ∃ (i a q : Nat) (ts : List ET) (A : Option Addr) (c : Nat), i_ = .int .i64 ((i : Nat) : Int) ∧ a_ = .int .i64 ((q : Nat) : Int) ∧ q = a0 + a ∧ i ≤ N ∧ tkS g l2 i = (ts, a, 0) ∧ OwnE wz (P + 1) (f + 1) A i c ts ∧ EvAt wz P (evC x0 x1 x2 x3 A i c) ∧ StK w xs wz
/-- The numbers stand where they were laid. -/
def StA (w : World) (xs : List Int) (W : World) : Prop := ArrAt .i64 5 60 W (w.heap.size + 1) (fun j => xs.getD j 0)
set_option linter.unusedSimpArgs false in
set_option maxRecDepth 100000 in
set_option maxHeartbeats 4000000 in
theorem takeC_any : ∀ (f dp : Nat), f + dp = 9 → ∀ (A : Option Addr) (n c : Nat) (l0 : List Int) (w : World) (B p : Nat), Nums .u8 w B A n l0 → byB l0 → n ≤ c → n ≤ 100000 → p ≤ n → B ≤ w.heap.size →
    Calls Try.prog 31 #[.slice A n c, .int .i64 (p : Int), .int .i64 (dp : Int)] w (TakeCPost f (l0.drop p) p w) := by
  intro f
  induction f with
  | zero =>
    intro dp hdp A n c l0 w B p hN hby hnc hn hp hB
    have d1 : decide ((8 : Int) < (dp : Int)) = true := by simp; omega
    obtain ⟨l, hl0⟩ : ∃ l, l = l0.drop p := ⟨_, rfl⟩
    rw [← hl0]
    have hT := Lib.hid (show tkT 0 l = (zT, 0, 3) by simp only [tkT])
    go_enter Try.func31, Try.ntmps31
    go_upto_region 1 with fail
    obtain ⟨w1, hw1⟩ : ∃ w1, w1 = w.alloc (.cells zeroE 24) := ⟨_, rfl⟩
    have hz1 : EvAt w1 w.heap.size zeroE := by rw [hw1]; exact EvAt.new _ _
    have hb1 : Below w.heap.size w w1 := by rw [hw1]; exact (Below.refl _ _).alloc (Nat.le_refl _) _
    rw [← hw1]
    clear hw1
    go_wp2_with (refine wpList_store_row rfl 24 (.tmp 6) (.tmp 21) rfl w.heap.size _ rfl rfl 24 zeroE hz1 size5 rfl zero_one ?_)
    refine bodyPost_ret (v := .tuple #[.agg zeroE, .int .i64 0, .iface 51 (.int .i64 3)]) ?_ rfl (takeC_bad hT.out (by decide) (below_setRow hb1 _ _ (Nat.le_refl _)))
    exact results_cell_two (ty := 24) (p := 6) (q := 7) (r := 8) (by kernel_rfl) _ _ w.heap.size 24 _ (0, 0) _ rfl (setRow_heap _ _ _ _ _ _ hz1) Try.underlying24 rfl size5
  | succ f ih =>
    intro dp hdp A n c l0 w B p hN hby hnc hn hp hB
    have d1 : decide ((8 : Int) < (dp : Int)) = false := by simp; omega
    have hln0 := hN.len
    have HN := Lib.hid hN
    have HBy0 := Lib.hid hby
    obtain ⟨l, hl0⟩ : ∃ l, l = l0.drop p := ⟨_, rfl⟩
    have hln : l.length = n - p := by rw [hl0, List.length_drop, hln0]
    have HBy := Lib.hid (show byB l by rw [hl0]; exact byB_drop p hby)
    have HRd := Lib.hid (rdN_range HBy.out)
    have HL0 := Lib.hid hl0
    rw [← hl0]
    clear hN hby hl0
    go_enter Try.func31, Try.ntmps31
    go_upto_region 3 with fail
    have hz5 := zero5
    have h1 : (w.alloc (.cells zeroE 24)).heap.size = w.heap.size + 1 := by simp
    have ha5 := ArrAt.new (w.alloc (.cells zeroE 24)) .i64 5 60 (fun _ => 0)
    rw [h1] at ha5
    go_upto_region 4 with fail
    obtain ⟨w2, hw2⟩ : ∃ w2, w2 = (w.alloc (.cells zeroE 24)).alloc (.cells (arr .i64 5 (fun _ => 0)) 60) := ⟨_, rfl⟩
    have HS2 := Lib.hid (show StK w [] w2 by
      rw [hw2]
      have hbb : Below w.heap.size w ((w.alloc (.cells zeroE 24)).alloc (.cells (arr .i64 5 (fun _ => 0)) 60)) := ((Below.refl _ _).alloc (Nat.le_refl _) _).alloc (by rw [h1]; omega) _
      have hz1 : EvAt ((w.alloc (.cells zeroE 24)).alloc (.cells (arr .i64 5 (fun _ => 0)) 60)) w.heap.size zeroE := (EvAt.new w zeroE).keep ((Below.refl _ _).alloc (Nat.le_refl _) _)
      exact ⟨hz1, ha5.congr (fun _ _ => rfl), hbb⟩)
    clear h1 ha5
    try rw [zero5]
    rw [← hw2]
    clear hw2 hz5
    go_upto_region 5 with fail
    go_loopw [1, 23] (fun a_ i_ wr => C1Rel w l p a_ i_ wr) (fun _ i _ => 5 - (intOf i).toNat)
    case atStart => exact ⟨0, 0, p, [], rfl, rfl, by omega, by omega, by simp [rdN], HS2.out⟩
    case round =>
      obtain ⟨i, a, q, xs, rfl, rfl, hq, hi, hrd, hst⟩ := hrel
      have HR := Lib.hid hrd
      have HS := Lib.hid hst
      obtain ⟨ha, hxl⟩ : a ≤ l.length ∧ xs.length = i := by
        rcases HRd.out i with ⟨h, _⟩ | ⟨_, _, h2, h3, _⟩
        · rw [hrd] at h; exact absurd rfl h
        · rw [hrd] at h2 h3; exact ⟨h2, h3⟩
      have HQ := Lib.hid hq
      clear hrd hst HS2
      by_cases hlt : i < 5
      · have hdq : l0.drop q = l.drop a := by rw [HL0.out, List.drop_drop, hq]
        obtain ⟨z, k, e0, htk⟩ : ∃ z k e, tk (l.drop a) = (z, k, e) := ⟨_, _, _, rfl⟩
        have hcall := fun W (hW : Below wr.heap.size wr W) => takeNumber_any A n c l0 W B q (HN.out.belowL (keepB hW HS.out.b) hB) hnc HBy0.out (by have := hW.size; have := HS.out.b.size; omega) (by omega) (by omega)
        rw [hdq, htk] at hcall
        unfold NumR at hcall
        have hd : decide ((i : Int) < 5) = true := by simp; omega
        have HTk := Lib.hid htk
        have hrg := tk_range (byB_drop a HBy.out) htk
        clear htk hdq
        by_cases he : e0 = 0
        · subst he
          obtain ⟨hk1, hk2⟩ : k ≤ 10 ∧ a + k ≤ l.length := by
            rcases hrg with ⟨_, _, h⟩ | ⟨_, _, h1, h2, _⟩
            · omega
            · rw [List.length_drop] at h1; omega
          obtain ⟨q2, hq2⟩ : ∃ x, x = q + k := ⟨_, rfl⟩
          simp only [if_true, errV_nil, ← hq2] at hcall
          have HCl := Lib.hid hcall
          have HQ2 := Lib.hid hq2
          clear hcall hrg hq2 hq
          go_upto_region 7 with fail
          go_wp2_with fail
          refine (HCl.out wr (Below.refl _ _)).mono ?_
          rintro e w3 ⟨rfl, hb3⟩
          replace HS := Lib.hid (HS.out.keep hb3)
          clear HCl hb3
          have q1 := HS.out.a.cell hlt
          have q3 := HS.out.a.frozen i
          have HN1 := Lib.hid (rdN_go HR.out HTk.out)
          have HS' := Lib.hid (show StK w (xs ++ [z]) (w3.setCell ⟨w.heap.size + 1, i, none⟩ (.int .i64 z)) from
            ⟨(heap_setCell_other w3 _ w.heap.size _ (by simp)).trans HS.out.z, by rw [← getD_snoc hxl z]; exact HS.out.a.set_ i z, HS.out.b.setCell (by simp) _⟩)
          have b0 : (0 : Int) ≤ (i : Int) := by omega
          have b1 : (i : Int) < 5 := by omega
          go_wp2_with fail
          go_roundw
          case rel => exact ⟨i + 1, a + k, q2, xs ++ [z], by go_num, rfl, by have h1 := HQ2.out; have h2 := HQ.out; omega, by omega, HN1.out, HS'.out⟩
          case measure => simp [intOf]; omega
        · have hstop := rdN_stop HR.out HTk.out he (4 - i)
          rw [show i + 1 + (4 - i) = 5 by omega] at hstop
          have HT := Lib.hid (show tkT (f + 1) l = (zT, 0, e0) by simp only [tkT, hstop]; rw [if_pos he])
          have HE := Lib.hid he
          simp only [if_neg he, errV_err he] at hcall
          have HCl := Lib.hid hcall
          clear he hstop hrg hcall hq
          go_upto_region 7 with fail
          go_wp2_with fail
          refine (HCl.out wr (Below.refl _ _)).mono ?_
          rintro e w3 ⟨rfl, hb3⟩
          replace HS := Lib.hid (HS.out.keep hb3)
          clear HCl hb3
          go_upto_region 9 with fail
          have hzz := HS.out.z
          go_wp2_with (refine wpList_store_row rfl 24 (.tmp 6) (.tmp 35) rfl w.heap.size _ rfl rfl 24 zeroE hzz size5 rfl zero_one ?_)
          refine bodyPost_ret (v := .tuple #[.agg zeroE, .int .i64 0, .iface 51 (.int .i64 e0)]) ?_ rfl (takeC_bad HT.out HE.out (below_setRow HS.out.b _ _ (Nat.le_refl _)))
          exact results_cell_two (ty := 24) (p := 6) (q := 7) (r := 8) (by kernel_rfl) _ _ w.heap.size 24 _ (0, 0) _ rfl (setRow_heap _ _ _ _ _ _ hzz) Try.underlying24 rfl size5
      · obtain rfl : i = 5 := by omega
        have hd : decide (((5 : Nat) : Int) < 5) = false := by simp
        have q0 : ∀ W, StA w xs W → W.cell? ⟨w.heap.size + 1, 0, none⟩ = some (.int .i64 (xs.getD 0 0)) := fun W hW => ArrAt.cell hW (i := 0) (by omega)
        have q1 : ∀ W, StA w xs W → W.cell? ⟨w.heap.size + 1, 1, none⟩ = some (.int .i64 (xs.getD 1 0)) := fun W hW => ArrAt.cell hW (i := 1) (by omega)
        have q2 : ∀ W, StA w xs W → W.cell? ⟨w.heap.size + 1, 2, none⟩ = some (.int .i64 (xs.getD 2 0)) := fun W hW => ArrAt.cell hW (i := 2) (by omega)
        have q3 : ∀ W, StA w xs W → W.cell? ⟨w.heap.size + 1, 3, none⟩ = some (.int .i64 (xs.getD 3 0)) := fun W hW => ArrAt.cell hW (i := 3) (by omega)
        have q4 : ∀ W, StA w xs W → W.cell? ⟨w.heap.size + 1, 4, none⟩ = some (.int .i64 (xs.getD 4 0)) := fun W hW => ArrAt.cell hW (i := 4) (by omega)
        obtain ⟨x0, h0⟩ : ∃ x, x = xs.getD 0 0 := ⟨_, rfl⟩
        obtain ⟨x1, h1⟩ : ∃ x, x = xs.getD 1 0 := ⟨_, rfl⟩
        obtain ⟨x2, h2⟩ : ∃ x, x = xs.getD 2 0 := ⟨_, rfl⟩
        obtain ⟨x3, h3⟩ : ∃ x, x = xs.getD 3 0 := ⟨_, rfl⟩
        obtain ⟨x4, h4⟩ : ∃ x, x = xs.getD 4 0 := ⟨_, rfl⟩
        have hT : tkT (f + 1) l = if x4 < 0 then (zT, 0, 1) else if 8 < x4 then (zT, 0, 19) else if (tkS (tkT f) (l.drop a) x4.toNat).2.2 ≠ 0 then (zT, 0, (tkS (tkT f) (l.drop a) x4.toNat).2.2)
            else (.node x0 x1 x2 x3 (tkS (tkT f) (l.drop a) x4.toNat).1, a + (tkS (tkT f) (l.drop a) x4.toNat).2.1, 0) := by
          simp only [tkT, HR.out]
          rw [if_neg (by simp), ← h0, ← h1, ← h2, ← h3, ← h4]
        have hin : ∀ j, j < 5 → In64 (xs.getD j 0) := fun j hj => by
          rcases HRd.out 5 with ⟨h, _⟩ | ⟨_, _, _, _, h⟩
          · rw [HR.out] at h; exact absurd rfl h
          · rw [HR.out] at h
            have hj2 : j < xs.length := by omega
            rw [List.getD, List.getElem?_eq_getElem hj2]
            exact h _ (List.getElem_mem hj2)
        have i0 := hin 0 (by omega)
        have i1 := hin 1 (by omega)
        have i2 := hin 2 (by omega)
        have i3 := hin 3 (by omega)
        simp only [← h0] at q0 i0
        simp only [← h1] at q1 i1
        simp only [← h2] at q2 i2
        simp only [← h3] at q3 i3
        simp only [← h4] at q4
        have HT := Lib.hid hT
        have H4 := Lib.hid h4
        clear hT hin h0 h1 h2 h3 h4
        clear hq
        go_upto_region 12 with fail
        refine wp_region_held_drew (S := StA w xs) (by kernel_rfl) (show StA w xs wr.drew from HS.out.a) (fun hHeld => ?_)
        have HS0 := Lib.hid (HS.out.keep ((Below.refl _ _).drew : Below wr.heap.size wr wr.drew))
        generalize wr.drew = W0 at hHeld HS0 ⊢
        refine wpAnyH_take (i := 0) (v := ?_) rfl (by kernel_rfl) (by kernel_rfl) (by kernel_rfl) (fun _ _ _ h => h) (Or.inl ⟨by rfl, ?_⟩) hHeld ?_
        rotate_left
        · (intro w hSw; go_simp; (try with_reducible rfl))
        simp only [Act.put, List.getElem_toArray, List.getElem_cons_zero, List.getElem_cons_succ, List.setIfInBounds_toArray, List.set_cons_zero, List.set_cons_succ]
        refine wpAnyH_take (i := 1) (v := ?_) rfl (by kernel_rfl) (by kernel_rfl) (by kernel_rfl) (fun _ _ _ h => h) (Or.inl ⟨by rfl, ?_⟩) hHeld ?_
        rotate_left
        · (intro w hSw; go_simp; (try with_reducible rfl))
        simp only [Act.put, List.getElem_toArray, List.getElem_cons_zero, List.getElem_cons_succ, List.setIfInBounds_toArray, List.set_cons_zero, List.set_cons_succ]
        refine wpAnyH_take (i := 2) (v := ?_) rfl (by kernel_rfl) (by kernel_rfl) (by kernel_rfl) (fun _ _ _ h => h) (Or.inl ⟨by rfl, ?_⟩) hHeld ?_
        rotate_left
        · (intro w hSw; go_simp; (try with_reducible rfl))
        simp only [Act.put, List.getElem_toArray, List.getElem_cons_zero, List.getElem_cons_succ, List.setIfInBounds_toArray, List.set_cons_zero, List.set_cons_succ]
        refine wpAnyH_take (i := 3) (v := ?_) rfl (by kernel_rfl) (by kernel_rfl) (by kernel_rfl) (fun _ _ _ h => h) (Or.inl ⟨by rfl, ?_⟩) hHeld ?_
        rotate_left
        · (intro w hSw; go_simp; (try with_reducible rfl))
        simp only [Act.put, List.getElem_toArray, List.getElem_cons_zero, List.getElem_cons_succ, List.setIfInBounds_toArray, List.set_cons_zero, List.set_cons_succ]
        refine wpAnyH_take (i := 4) (v := ?_) rfl (by kernel_rfl) (by kernel_rfl) (by kernel_rfl) (fun _ _ _ h => h) (Or.inl ⟨by rfl, ?_⟩) hHeld ?_
        rotate_left
        · (intro w hSw; go_simp; (try with_reducible rfl))
        simp only [Act.put, List.getElem_toArray, List.getElem_cons_zero, List.getElem_cons_succ, List.setIfInBounds_toArray, List.set_cons_zero, List.set_cons_succ]
        refine wpAnyH_take (i := 5) (v := ?_) rfl (by kernel_rfl) (by kernel_rfl) (by kernel_rfl) (fun _ _ _ h => h) (Or.inl ⟨by rfl, ?_⟩) hHeld ?_
        rotate_left
        · (intro w hSw; go_simp; (try with_reducible rfl))
        simp only [Act.put, List.getElem_toArray, List.getElem_cons_zero, List.getElem_cons_succ, List.setIfInBounds_toArray, List.set_cons_zero, List.set_cons_succ]
        refine wpAnyH_take (i := 6) (v := ?_) rfl (by kernel_rfl) (by kernel_rfl) (by kernel_rfl) (fun _ _ _ h => h) (Or.inl ⟨by rfl, ?_⟩) hHeld ?_
        rotate_left
        · (intro w hSw; go_simp; (try with_reducible rfl))
        simp only [Act.put, List.getElem_toArray, List.getElem_cons_zero, List.getElem_cons_succ, List.setIfInBounds_toArray, List.set_cons_zero, List.set_cons_succ]
        refine wpAnyH_take (i := 7) (v := ?_) rfl (by kernel_rfl) (by kernel_rfl) (by kernel_rfl) (fun _ _ _ h => h) (Or.inl ⟨by rfl, ?_⟩) hHeld ?_
        rotate_left
        · (intro w hSw; go_simp; (try with_reducible rfl))
        simp only [Act.put, List.getElem_toArray, List.getElem_cons_zero, List.getElem_cons_succ, List.setIfInBounds_toArray, List.set_cons_zero, List.set_cons_succ]
        refine wpAnyH_take (i := 8) (v := ?_) rfl (by kernel_rfl) (by kernel_rfl) (by kernel_rfl) (fun _ _ _ h => h) (Or.inl ⟨by rfl, ?_⟩) hHeld ?_
        rotate_left
        · (intro w hSw; go_simp; (try with_reducible rfl))
        simp only [Act.put, List.getElem_toArray, List.getElem_cons_zero, List.getElem_cons_succ, List.setIfInBounds_toArray, List.set_cons_zero, List.set_cons_succ]
        refine wpAnyH_take (i := 9) (v := ?_) rfl (by kernel_rfl) (by kernel_rfl) (by kernel_rfl) (fun _ _ _ h => h) (Or.inl ⟨by rfl, ?_⟩) hHeld ?_
        rotate_left
        · (intro w hSw; go_simp; (try with_reducible rfl))
        simp only [Act.put, List.getElem_toArray, List.getElem_cons_zero, List.getElem_cons_succ, List.setIfInBounds_toArray, List.set_cons_zero, List.set_cons_succ]
        refine wpAnyH_take (i := 10) (v := ?_) rfl (by kernel_rfl) (by kernel_rfl) (by kernel_rfl) (fun _ _ _ h => h) (Or.inl ⟨by rfl, ?_⟩) hHeld ?_
        rotate_left
        · (intro w hSw; go_simp; (try with_reducible rfl))
        simp only [Act.put, List.getElem_toArray, List.getElem_cons_zero, List.getElem_cons_succ, List.setIfInBounds_toArray, List.set_cons_zero, List.set_cons_succ]
        refine wpAnyH_ready (rs := [11]) (by kernel_rfl) (by simp) ?_
        refine AllReadyH.cons rfl (fun K hK => ?_) AllReadyH.nil
        simp only [List.getElem_toArray, List.getElem_cons_zero, List.getElem_cons_succ]
        go_simp
        have hE4 : EvAt (W0.alloc (.cells zeroE 24)) W0.heap.size zeroE := EvAt.new _ _
        have hb4 : Below W0.heap.size W0 (W0.alloc (.cells zeroE 24)) := (Below.refl _ _).alloc (Nat.le_refl _) _
        have HS4 := HS0.out.keep hb4
        generalize hw4 : W0.alloc (.cells zeroE 24) = w4 at hE4 hb4 HS4 ⊢
        clear hw4
        refine hK.out _ _ (show StA w xs w4 from HS4.a) (fun _ => ?_)
        clear hK K
        try simp only [Act.put, List.setIfInBounds_toArray, List.set_cons_zero, List.set_cons_succ]
        refine wpAnyH_ready (rs := [12]) (by kernel_rfl) (by simp) ?_
        refine AllReadyH.cons rfl (fun K hK => ?_) AllReadyH.nil
        simp only [List.getElem_toArray, List.getElem_cons_zero, List.getElem_cons_succ]
        have hwP : w.heap.size + 1 < W0.heap.size := HS0.out.a.lt
        refine wp_store_row 24 (.tmp 14) (.tmp 50) rfl W0.heap.size (evC x0 x1 x2 x3 none 0 0) rfl rfl 24 zeroE hE4 size5 rfl (ev_one _ _ _ _ _ _ _) ?_
        have HP5 := Lib.hid (show EvAt (w4.setRow W0.heap.size (evC x0 x1 x2 x3 none 0 0)) W0.heap.size (evC x0 x1 x2 x3 none 0 0) from setRow_heap _ _ _ _ _ _ hE4)
        have HS5 := Lib.hid (show StK w xs (w4.setRow W0.heap.size (evC x0 x1 x2 x3 none 0 0)) from ⟨(setRow_other w4 _ _ _ (by omega)).trans HS4.z, (setRow_other w4 _ _ _ (by omega)).trans HS4.a, below_setRow HS4.b _ _ (by omega)⟩)
        generalize hw5 : w4.setRow W0.heap.size (evC x0 x1 x2 x3 none 0 0) = w5 at HP5 HS5 ⊢
        clear hw5
        have hA5 : StA w xs w5 := HS5.out.a
        refine hK.out _ _ hA5 (fun _ => ?_)
        clear hK K
        try simp only [Act.put, List.setIfInBounds_toArray, List.set_cons_zero, List.set_cons_succ]
        have hHeld := hA5
        refine wpAnyH_take (i := 13) (v := ?_) rfl (by kernel_rfl) (by kernel_rfl) (by kernel_rfl) (fun _ _ _ h => h) (Or.inl ⟨by rfl, ?_⟩) hHeld ?_
        rotate_left
        · (intro w hSw; go_simp; (try with_reducible rfl))
        simp only [Act.put, List.getElem_toArray, List.getElem_cons_zero, List.getElem_cons_succ, List.setIfInBounds_toArray, List.set_cons_zero, List.set_cons_succ]
        refine wpAnyH_done (by kernel_rfl) ?_ _
        obtain ⟨P, hP⟩ : ∃ P, P = W0.heap.size := ⟨_, rfl⟩
        rw [← hP] at HP5 hwP ⊢
        clear hE4 hb4 HS4 HS0 hA5 hHeld q0 q1 q2 q3 q4 hP HS
        by_cases c2 : 8 < x4
        · replace HT := Lib.hid (HT.out.trans ((if_neg (by omega)).trans (if_pos c2)))
          have e2 : decide ((8 : Int) < x4) = true := by simpa using c2
          clear c2
          go_upto_region 14 with fail
          have hzz := HS5.out.z
          go_wp2_with (refine wpList_store_row rfl 24 (.tmp 6) (.tmp 55) rfl w.heap.size _ rfl rfl 24 zeroE hzz size5 rfl zero_one ?_)
          refine bodyPost_ret (v := .tuple #[.agg zeroE, .int .i64 0, .iface 51 (.int .i64 19)]) ?_ rfl (takeC_bad HT.out (by decide) (below_setRow HS5.out.b _ _ (Nat.le_refl _)))
          exact results_cell_two (ty := 24) (p := 6) (q := 7) (r := 8) (by kernel_rfl) _ _ w.heap.size 24 _ (0, 0) _ rfl (setRow_heap _ _ _ _ _ _ hzz) Try.underlying24 rfl size5
        · have e2 : decide ((8 : Int) < x4) = false := by simpa using c2
          by_cases c1 : x4 < 0
          · replace HT := Lib.hid (HT.out.trans (if_pos c1))
            have e1 : decide (x4 < 0) = true := by simpa using c1
            clear c2 c1
            go_upto_region 16 with fail
            have hzz := HS5.out.z
            go_wp2_with (refine wpList_store_row rfl 24 (.tmp 6) (.tmp 59) rfl w.heap.size _ rfl rfl 24 zeroE hzz size5 rfl zero_one ?_)
            refine bodyPost_ret (v := .tuple #[.agg zeroE, .int .i64 0, .iface 51 (.int .i64 1)]) ?_ rfl (takeC_bad HT.out (by decide) (below_setRow HS5.out.b _ _ (Nat.le_refl _)))
            exact results_cell_two (ty := 24) (p := 6) (q := 7) (r := 8) (by kernel_rfl) _ _ w.heap.size 24 _ (0, 0) _ rfl (setRow_heap _ _ _ _ _ _ hzz) Try.underlying24 rfl size5
          · have e1 : decide (x4 < 0) = false := by simpa using c1
            replace HT := Lib.hid (HT.out.trans ((if_neg c1).trans (if_neg c2)))
            obtain ⟨N, rfl⟩ := Int.eq_ofNat_of_zero_le (show 0 ≤ x4 by omega)
            rw [Int.toNat_natCast] at HT
            go_upto_region 18 with fail
            have hl2 : (l.drop a).length = l.length - a := List.length_drop
            obtain ⟨l2, hl2e⟩ : ∃ l2, l2 = l.drop a := ⟨_, rfl⟩
            rw [← hl2e] at HT hl2
            have HL2 := Lib.hid hl2e
            have HSR := Lib.hid (tkS_range (g := tkT f) (tkT_range f) (l := l2) (by rw [hl2e]; exact byB_drop a HBy.out))
            clear hl2e e1 e2
            go_loopw [1, 62] (fun a_ i_ wz => C2Rel w (tkT f) l2 f P q N x0 x1 x2 x3 xs a_ i_ wz) (fun _ i _ => N - (intOf i).toNat)
            case atStart => exact ⟨0, 0, q, [], none, 0, rfl, rfl, by omega, by omega, by simp [tkS], OwnE.nil _ _ _, HP5.out, HS5.out⟩
            case round =>
              obtain ⟨i, b, q2, ts, A4, c4, rfl, rfl, hq2, hi2, hts, hO, hPv, hS⟩ := hrel
              have HQ2 := Lib.hid hq2
              have HTs := Lib.hid hts
              have HO := Lib.hid hO
              have HPv := Lib.hid hPv
              have HS := Lib.hid hS
              have hbl : b ≤ l2.length := by
                rcases HSR.out i with ⟨h, _⟩ | ⟨_, _, h2, _⟩
                · rw [hts] at h; exact absurd rfl h
                · rw [hts] at h2; exact h2
              have hqn : q2 ≤ n := by have := HQ.out; omega
              have hdq : l0.drop q2 = l2.drop b := by rw [HL2.out, HL0.out, List.drop_drop, List.drop_drop]; congr 1; have := HQ.out; omega
              clear hts hO hPv hS HP5 HS5 hq2
              by_cases hlt2 : i < N
              · have hd2 : decide ((i : Int) < (N : Int)) = true := by simp; omega
                have hcall := ih (dp + 1) (by omega) A n c l0 wr B q2 (HN.out.belowL HS.out.b hB) HBy0.out hnc hn hqn (by have := HS.out.b.size; omega)
                rw [hdq] at hcall
                rw [show ((dp + 1 : Nat) : Int) = (dp : Int) + 1 by omega] at hcall
                have hrg2 := tkT_range f (l2.drop b) (byB_drop b (by rw [HL2.out]; exact byB_drop a HBy.out))
                clear hdq
                have HGo := Lib.hid (tkS_go (g := tkT f) HTs.out)
                have HStop := Lib.hid (fun he => tkS_stop (g := tkT f) HTs.out he (N - (i + 1)))
                rw [show i + 1 + (N - (i + 1)) = N by omega] at HStop
                unfold TakeCPost at hcall
                obtain ⟨t5, ht5⟩ : ∃ x, x = (tkT f (l2.drop b)).1 := ⟨_, rfl⟩
                obtain ⟨k2, hk2⟩ : ∃ x, x = (tkT f (l2.drop b)).2.1 := ⟨_, rfl⟩
                obtain ⟨e2, he2⟩ : ∃ x, x = (tkT f (l2.drop b)).2.2 := ⟨_, rfl⟩
                rw [← ht5] at hcall hrg2 HGo
                rw [← hk2] at hcall hrg2 HGo
                rw [← he2] at hcall hrg2 HGo HStop
                clear ht5 hk2 he2
                by_cases he : e2 = 0
                · subst he
                  replace HGo := Lib.hid (HGo.out rfl)
                  have hk2 : k2 ≤ l2.length - b := by
                    rcases hrg2 with ⟨h, _⟩ | ⟨_, _, h⟩
                    · exact absurd rfl h
                    · rw [List.length_drop] at h; exact h
                  obtain ⟨q3, hq3⟩ : ∃ x, x = q2 + k2 := ⟨_, rfl⟩
                  simp only [if_true, errV_nil, ← hq3] at hcall
                  have HQ3 := Lib.hid hq3
                  clear hrg2 HStop hq3
                  go_upto_region 19 with fail
                  go_wp2_with fail
                  refine hcall.mono ?_
                  rintro e w5 ⟨cs5, rfl, hr5, hb5⟩
                  have hs5 := hr5.size
                  have hsx5 : (Try.prog.info? 24).map (·.size) = some cs5.size := by rw [hs5]; exact size5
                  have h15 : cs5.all (·.oneCell') = true := by obtain ⟨_, _, e⟩ := hr5.shape; rw [e]; exact ev_one _ _ _ _ _ _ _
                  have hnew : (w5.alloc (.cells zeroE 24)).heap[w5.heap.size]? = some (.cells zeroE 24 (0, 0)) := heap_alloc_new _ _
                  clear hcall
                  go_upto_region 20 with (refine wpList_store_row rfl 24 (.tmp 16) (.tmp 70) rfl w5.heap.size _ rfl rfl 24 zeroE hnew hsx5 (by rw [hs5]; rfl) h15 ?_)
                  obtain ⟨w6, hw6, hX6, hb6⟩ := ev_box w5 (xs := cs5)
                  rw [← hw6]
                  clear hw6 hnew
                  have hs56 := hb6.size
                  have hs05 := hb5.size
                  have hb56 := keepB hb6 hb5
                  have hr6 := hr5.keep (Q' := fun b => P + 1 ≤ b ∧ b < w6.heap.size ∧ some b ≠ (Value.slice A4 i c4).ownBlock) (fun b hq => hb6.block b hq.2) (fun b hq => ⟨by have := HPv.out.lt; omega, by omega, fun e => by have := HO.out.ownTop b e.symm; omega⟩)
                  have HS6 := Lib.hid (HS.out.keep hb56)
                  have HO6 := Lib.hid (HO.out.below hb56)
                  have HPv6 := Lib.hid (HPv.out.keep hb56)
                  clear hr5 hb5 hb6 hs56 hs05
                  have c4f : w6.cell? ⟨P, 4, none⟩ = some (.slice A4 i c4) := by rw [HPv6.out.cell]; rfl
                  have hb7 : Below w6.heap.size w6 (w6.alloc (.cells cs5 24)) := (Below.refl _ _).alloc (Nat.le_refl _) _
                  have hO7 := HO6.out.below hb7
                  have hX7 : EvAt (w6.alloc (.cells cs5 24)) w6.heap.size cs5 := EvAt.new _ _
                  have hP7 := HPv6.out.keep hb7
                  have hS7 := HS6.out.keep hb7
                  have hsz7 : (w6.alloc (.cells cs5 24)).heap.size = w6.heap.size + 1 := by simp
                  have hr7 := hr6.keep (Q' := fun b => P + 1 ≤ b ∧ b < (w6.alloc (.cells cs5 24)).heap.size ∧ some b ≠ (Value.slice A4 i c4).ownBlock) (fun b hq => hb7.block b hq.2.1) (fun b hq => ⟨hq.1, by rw [hsz7]; omega, hq.2.2⟩)
                  have hPl := HPv6.out.lt
                  have hown : ∀ k, k < P + 1 → some k ≠ (Value.slice A4 i c4).ownBlock := fun k hk e => by have := hO7.ownLt k e.symm; omega
                  have HK := Lib.hid (show ∀ A8 c8 w8, OwnE w8 (P + 1) (f + 1) A8 (i + 1) c8 (ts ++ [t5]) → (w6.alloc (.cells cs5 24)).grownBy w8 (Value.slice A4 i c4).ownBlock →
                      EvAt w8 P (evC x0 x1 x2 x3 A4 i c4) ∧ OwnE (w8.setCell ⟨P, 4, none⟩ (.slice A8 (i + 1) c8)) (P + 1) (f + 1) A8 (i + 1) c8 (ts ++ [t5]) ∧
                      EvAt (w8.setCell ⟨P, 4, none⟩ (.slice A8 (i + 1) c8)) P (evC x0 x1 x2 x3 A8 (i + 1) c8) ∧ StK w xs (w8.setCell ⟨P, 4, none⟩ (.slice A8 (i + 1) c8)) from fun A8 c8 w8 h1 h2 => by
                    have hev : EvAt w8 P (evC x0 x1 x2 x3 A4 i c4) := (h2.block P hP7.lt (hown P (by omega))).trans hP7
                    have hz := (h2.block w.heap.size hS7.z.lt (hown _ (by omega))).trans hS7.z
                    have ha := (h2.block (w.heap.size + 1) hS7.a.lt (hown _ (by omega))).trans hS7.a
                    refine ⟨hev, h1.same (by simp) (fun b hb _ => heap_setCell_other w8 _ b _ (by simp; omega)), heap_setCell_same w8 P 4 _ _ _ hev, ⟨(heap_setCell_other w8 _ _ _ (by simp; omega)).trans hz, (heap_setCell_other w8 _ _ _ (by simp; omega)).trans ha, ?_⟩⟩
                    have hbw : Below w.heap.size w w8 := ⟨h2.os.trans hS7.b.os, h2.tape.trans hS7.b.tape, h2.output.trans hS7.b.output, Nat.le_trans hS7.b.size h2.size, fun k hk => (h2.block k (by have := hS7.z.lt; omega) (hown k (by omega))).trans (hS7.b.block k hk)⟩
                    exact hbw.setCell (by simp; omega) _)
                  have hi1000 : i ≤ 1000 := by omega
                  have hbase7 : P + 1 ≤ (w6.alloc (.cells cs5 24)).heap.size := by rw [hsz7]; omega
                  clear hS7 hP7 hsz7 hr6 hb7 hown hPl
                  go_upto_region 22 with fail
                  go_upto_region 23 with (first
                    | (refine wpList_load_row rfl 24 (.tmp 16) rfl w5.heap.size rfl 24 _ (0, 0) _ hX6 Try.underlying24 rfl hsx5 ?_)
                    | (refine wpList_buildSlice_eff rfl (.tmp 79) rfl cs5 hs5 rfl ?_)
                    | (at_builtin; refine wpList_appE rfl (.tmp 78) (.tmp 80) rfl (P + 1) (f + 1) A4 i c4 ts rfl hO7 w6.heap.size 1 cs5 rfl hX7 t5 hr7 hi1000 hbase7 ?_; intro A8 c8 w8 hO8 hg8; have hk8 := HK.out A8 c8 w8 hO8 hg8; have hc8 : w8.cell? ⟨P, 4, none⟩ = some (.slice A4 i c4) := (by rw [hk8.1.cell]; rfl); have hf8 := frozen_of_row w8 P 4 _ _ hk8.1))
                  have HK8 := Lib.hid hk8
                  clear hk8 hc8 hf8 hO8 hg8 hO7 hX7 hr7 HK hX6 c4f hi1000 hbase7
                  go_wp2_with fail
                  go_roundw
                  case rel => exact ⟨i + 1, b + k2, q3, ts ++ [t5], A8, c8, by go_num, rfl, by have h1 := HQ2.out; have h2 := HQ3.out; omega, by omega, HGo.out, HK8.out.2.1, HK8.out.2.2.1, HK8.out.2.2.2⟩
                  case measure => simp [intOf]; omega
                · have HTb := Lib.hid (show tkT (f + 1) l = (zT, 0, e2) by rw [HT.out, HStop.out he]; simp [he])
                  have HE := Lib.hid he
                  simp only [if_neg he, errV_err he] at hcall
                  clear hrg2 HGo HStop he
                  go_upto_region 19 with fail
                  go_wp2_with fail
                  refine hcall.mono ?_
                  rintro e w5 ⟨cs5, rfl, hr5, hb5⟩
                  have hs5 := hr5.size
                  have hsx5 : (Try.prog.info? 24).map (·.size) = some cs5.size := by rw [hs5]; exact size5
                  have h15 : cs5.all (·.oneCell') = true := by obtain ⟨_, _, e⟩ := hr5.shape; rw [e]; exact ev_one _ _ _ _ _ _ _
                  have hnew : (w5.alloc (.cells zeroE 24)).heap[w5.heap.size]? = some (.cells zeroE 24 (0, 0)) := heap_alloc_new _ _
                  clear hcall
                  go_upto_region 20 with (refine wpList_store_row rfl 24 (.tmp 16) (.tmp 70) rfl w5.heap.size _ rfl rfl 24 zeroE hnew hsx5 (by rw [hs5]; rfl) h15 ?_)
                  obtain ⟨w6, hw6, hX6, hb6⟩ := ev_box w5 (xs := cs5)
                  rw [← hw6]
                  clear hw6 hnew
                  have HS6 := Lib.hid (HS.out.keep (keepB hb6 hb5))
                  clear hr5 hb5 hb6 hX6
                  go_upto_region 21 with fail
                  have hzz := HS6.out.z
                  go_wp2_with (refine wpList_store_row rfl 24 (.tmp 6) (.tmp 75) rfl w.heap.size _ rfl rfl 24 zeroE hzz size5 rfl zero_one ?_)
                  refine bodyPost_ret (v := .tuple #[.agg zeroE, .int .i64 0, .iface 51 (.int .i64 e2)]) ?_ rfl (takeC_bad HTb.out HE.out (below_setRow HS6.out.b _ _ (Nat.le_refl _)))
                  exact results_cell_two (ty := 24) (p := 6) (q := 7) (r := 8) (by kernel_rfl) _ _ w.heap.size 24 _ (0, 0) _ rfl (setRow_heap _ _ _ _ _ _ hzz) Try.underlying24 rfl size5
              · obtain rfl : i = N := by omega
                have hd2 : decide ((i : Int) < (i : Int)) = false := by simp
                have hwi := HO.out.within (B := wr.heap.size) (Nat.le_refl _)
                have hR := Lib.hid (show ReadsQ (fun b => P ≤ b ∧ b < wr.heap.size) wr (f + 1 + 1) (evC x0 x1 x2 x3 A4 i c4) (.node x0 x1 x2 x3 ts) from by
                  refine ⟨i0, i1, i2, i3, A4, c4, by rw [HO.out.len], by rw [HO.out.len]; exact hwi.1, hwi.2.1, fun j t hj => ?_⟩
                  obtain ⟨g, o, ys, e1, hg, hra, hfz, hrd⟩ := hwi.2.2 j t hj
                  exact ⟨g, o, ys, e1, ⟨by omega, hg.2⟩, hra, hfz, hrd.keep (fun _ _ => rfl) (fun b hq => ⟨by omega, hq.2⟩)⟩)
                have HTg := Lib.hid (show tkT (f + 1) l = (.node x0 x1 x2 x3 ts, a + b, 0) by rw [HT.out, HTs.out]; simp)
                obtain ⟨cs9, hcs9⟩ : ∃ cs, cs = evC x0 x1 x2 x3 A4 i c4 := ⟨_, rfl⟩
                have hP9 := HPv.out
                have hz9 := HS.out.z
                rw [← hcs9] at hP9 hR
                have hs9 : (Try.prog.info? 24).map (·.size) = some cs9.size := by rw [hcs9]; exact size5
                have h19 : cs9.all (·.oneCell') = true := by rw [hcs9]; exact ev_one _ _ _ _ _ _ _
                have hsz9 : zeroE.size = cs9.size := by rw [hcs9]; rfl
                have hbw9 := HS.out.b
                clear hwi hcs9
                go_upto_region 24 with fail
                go_wp2_with (first
                  | (refine wpList_load_row rfl 24 (.tmp 14) rfl P rfl 24 _ (0, 0) _ hP9 Try.underlying24 rfl hs9 ?_)
                  | (refine wpList_store_row rfl 24 (.tmp 6) (.tmp 85) rfl w.heap.size _ rfl rfl 24 zeroE hz9 hs9 hsz9 h19 ?_))
                have hqf : q2 = p + (a + b) := by have h1 := HQ.out; have h2 := HQ2.out; omega
                refine bodyPost_ret (v := .tuple #[.agg cs9, .int .i64 ((q2 : Nat) : Int), .nilIface]) ?_ rfl ⟨cs9, by rw [HTg.out, hqf]; simp [errV_nil], ?_, below_setRow hbw9 _ _ (Nat.le_refl _)⟩
                · exact results_cell_two (ty := 24) (p := 6) (q := 7) (r := 8) (by kernel_rfl) _ _ w.heap.size 24 _ (0, 0) _ rfl (setRow_heap _ _ _ _ _ _ hz9) Try.underlying24 rfl hs9
                · rw [HTg.out]
                  exact hR.out.keep (fun b hq => setRow_other wr _ b _ (by omega)) (fun b hq => ⟨by omega, by have := hq.2; simp; omega⟩)
end Go.Proofs.Ytjijnapphbeahaa
