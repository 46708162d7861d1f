/- Layer 6: whether two effects are the same: mulligannum.Effects. -/
import Derived.Test.YtmdfgkfimlmmnaaDoorTreeBase
namespace Go.Proofs.YtmdfgkfimlmmnaaDoor
open Go.RowKit Ex
namespace Ex
mutual
def sameT : ET → ET → Bool
  | .node a b c d l, .node a' b' c' d' l' => a == a' && b == b' && c == c' && d == d' && l.length == l'.length && sameL l l'
def sameL : List ET → List ET → Bool
  | t :: l, t' :: l' => sameT t t' && sameL l l'
  | _, _ => true
end
theorem sameL_take : ∀ (l l' : List ET) (k : Nat) (t t' : ET), l[k]? = some t → l'[k]? = some t' → sameL (l.take (k + 1)) (l'.take (k + 1)) = (sameL (l.take k) (l'.take k) && sameT t t')
  | [], _, k, t, t', h, _ => by simp at h
  | _ :: _, [], k, t, t', _, h => by simp at h
  | x :: l, y :: l', 0, t, t', h, h' => by
    simp at h h'; subst h; subst h'; simp [sameL]
  | x :: l, y :: l', k + 1, t, t', h, h' => by
    have := sameL_take l l' k t t' (by simpa using h) (by simpa using h')
    simp only [List.take_succ_cons, sameL, this, Bool.and_assoc]
theorem sameL_no : ∀ (l l' : List ET) (k : Nat) (t t' : ET), l[k]? = some t → l'[k]? = some t' → sameT t t' = false → sameL l l' = false
  | [], _, k, t, t', h, _, _ => by simp at h
  | _ :: _, [], k, t, t', _, h, _ => by simp at h
  | x :: l, y :: l', 0, t, t', h, h', hs => by
    simp at h h'; subst h; subst h'; simp [sameL, hs]
  | x :: l, y :: l', k + 1, t, t', h, h', hs => by
    have := sameL_no l l' k t t' (by simpa using h) (by simpa using h') hs
    simp only [sameL, this, Bool.and_false]
mutual
theorem sameT_refl : ∀ t, sameT t t = true
  | .node a b c d l => by simp [sameT, sameL_refl l]
theorem sameL_refl : ∀ l, sameL l l = true
  | [] => by simp [sameL]
  | t :: l => by simp [sameL, sameT_refl t, sameL_refl l]
end
end Ex
def SmRel (w1 : World) (l l' : List ET) (i : Value) (wr : World) : Prop :=
  ∃ k : Nat, i = .int .i64 ((k : Nat) : Int) ∧ k ≤ l.length ∧ sameL (l.take k) (l'.take k) = true ∧ Below w1.heap.size w1 wr
set_option linter.unusedSimpArgs false in
set_option maxRecDepth 100000 in
set_option maxHeartbeats 2000000 in
theorem effects_any : ∀ (d : Nat) (t t' : ET) (cs cs' : Array Value) (d' : Nat) (w : World), Reads w.heap.size w d cs t → Reads w.heap.size w d' cs' t' → sizeT t ≤ 1000000 →
    Calls Tryd.prog 27 #[.agg cs, .agg cs'] w fun e w' => e = .returned (.bool (sameT t t')) ∧ Below w.heap.size w w' := by
  intro d
  induction d with
  | zero => exact fun t t' cs cs' d' w h => absurd h id
  | succ d ih =>
    intro t t' cs cs' d' w hr hr' hsz
    cases d' with
    | zero => exact absurd hr' id
    | succ d' =>
    obtain ⟨op, n, m, who, l⟩ := t
    obtain ⟨op', n', m', who', l'⟩ := t'
    obtain ⟨_, _, _, _, A, c, hcs, hl, hc, hx⟩ := hr
    obtain ⟨_, _, _, _, A', c', hcs', hl', hc', hx'⟩ := hr'
    have HX := Lib.hid hx
    have HX' := Lib.hid hx'
    have HCs := Lib.hid hcs
    have HCs' := Lib.hid hcs'
    simp only [sizeT] at hsz
    have hlen := sizeL_len l
    clear hx hx' hcs hcs'
    go_enter Tryd.func27, Tryd.ntmps27
    go_upto_region 1 with fail
    obtain ⟨w1, hw1⟩ : ∃ w1, w1 = (w.alloc (.cells cs 46)).alloc (.cells cs' 46) := ⟨_, rfl⟩
    have hE : EvAt w1 w.heap.size cs := by rw [hw1]; exact (EvAt.new w cs).keep ((Below.refl _ _).alloc (Nat.le_refl _) _)
    have hE' : EvAt w1 (w.heap.size + 1) cs' := by
      have h := EvAt.new (w.alloc (.cells cs 46)) cs'
      rw [hw1]; simpa using h
    have hb1 : Below w.heap.size w w1 := by rw [hw1]; exact ((Below.refl _ _).alloc (Nat.le_refl _) _).alloc (by simp) _
    rw [← hw1]
    clear hw1
    have c0 : w1.cell? ⟨w.heap.size, 0, none⟩ = some (.int .i64 op) := by rw [hE.cell, HCs.out]; rfl
    have c1 : w1.cell? ⟨w.heap.size, 1, none⟩ = some (.int .i64 n) := by rw [hE.cell, HCs.out]; rfl
    have c2 : w1.cell? ⟨w.heap.size, 2, none⟩ = some (.int .i64 m) := by rw [hE.cell, HCs.out]; rfl
    have c3 : w1.cell? ⟨w.heap.size, 3, none⟩ = some (.int .i64 who) := by rw [hE.cell, HCs.out]; rfl
    have c4 : w1.cell? ⟨w.heap.size, 4, none⟩ = some (.slice A l.length c) := by rw [hE.cell, HCs.out]; rfl
    have k0 : w1.cell? ⟨w.heap.size + 1, 0, none⟩ = some (.int .i64 op') := by rw [hE'.cell, HCs'.out]; rfl
    have k1 : w1.cell? ⟨w.heap.size + 1, 1, none⟩ = some (.int .i64 n') := by rw [hE'.cell, HCs'.out]; rfl
    have k2 : w1.cell? ⟨w.heap.size + 1, 2, none⟩ = some (.int .i64 m') := by rw [hE'.cell, HCs'.out]; rfl
    have k3 : w1.cell? ⟨w.heap.size + 1, 3, none⟩ = some (.int .i64 who') := by rw [hE'.cell, HCs'.out]; rfl
    have k4 : w1.cell? ⟨w.heap.size + 1, 4, none⟩ = some (.slice A' l'.length c') := by rw [hE'.cell, HCs'.out]; rfl
    have HW := Lib.hid (show ∀ W, Below w1.heap.size w1 W → W.cell? ⟨w.heap.size, 4, none⟩ = some (.slice A l.length c) from fun W hW => by rw [(hE.keep hW).cell, HCs.out]; rfl)
    have HW' := Lib.hid (show ∀ W, Below w1.heap.size w1 W → W.cell? ⟨w.heap.size + 1, 4, none⟩ = some (.slice A' l'.length c') from fun W hW => by rw [(hE'.keep hW).cell, HCs'.out]; rfl)
    clear hE hE'
    by_cases e0 : op = op'
    · subst e0
      by_cases e1 : n = n'
      · subst e1
        by_cases e2 : m = m'
        · subst e2
          by_cases e3 : who = who'
          · subst e3
            by_cases e4 : l.length = l'.length
            · have HS := Lib.hid (show sameT (.node op n m who l) (.node op n m who l') = sameL l l' by simp [sameT, e4])
              have f4 : ((l.length : Int) != (l'.length : Int)) = false := by simp [e4]
              go_upto_region 4 with fail
              go_loopw [44] (fun i wr => SmRel w1 l l' i wr) (fun i _ => l.length - (intOf i).toNat)
              case atStart => exact ⟨0, rfl, by omega, by simp [sameL], Below.refl _ _⟩
              case round =>
                obtain ⟨k, rfl, hk, hs, hb⟩ := hrel
                have Hs := Lib.hid hs
                clear hs c0 c1 c2 c3 c4 k0 k1 k2 k3 k4
                by_cases hlt : k < l.length
                · have hlt' : k < l'.length := by omega
                  obtain ⟨t, ht⟩ : ∃ t, l[k]? = some t := ⟨_, List.getElem?_eq_getElem hlt⟩
                  obtain ⟨t', ht'⟩ : ∃ t', l'[k]? = some t' := ⟨_, List.getElem?_eq_getElem hlt'⟩
                  obtain ⟨b, o, xs, rfl, hbb, hra, hrx⟩ := HX.out k t ht
                  obtain ⟨b', o', xs', rfl, hbb', hra', hrx'⟩ := HX'.out k t' ht'
                  have hts := size_mem ht
                  have HTk := Lib.hid (sameL_take l l' k t t' ht ht')
                  have HNo := Lib.hid (sameL_no l l' k t t' ht ht')
                  have hxs := hrx.size
                  have hxs' := hrx'.size
                  have hd : decide ((k : Int) < (l.length : Int)) = true := by simp; omega
                  have hkr : k < 1000000 := by omega
                  have g0 : (0 : Int) ≤ (k : Int) := by omega
                  have g1 : (k : Int) < (l.length : Int) := by omega
                  have g2 : (k : Int) < (l'.length : Int) := by omega
                  have q1 := fun W (hW : Below wr.heap.size wr W) => HW.out W (keepB hW hb)
                  have q2 := fun W (hW : Below wr.heap.size wr W) => HW'.out W (keepB hW hb)
                  have HR := Lib.hid (fun W (hW : Below wr.heap.size wr W) => rangeAt_below (keepB hW hb) (by have := hb1.size; omega) (rangeAt_below hb1 hbb hra))
                  have HR' := Lib.hid (fun W (hW : Below wr.heap.size wr W) => rangeAt_below (keepB hW hb) (by have := hb1.size; omega) (rangeAt_below hb1 hbb' hra'))
                  have HC := Lib.hid (fun W (hW : Below wr.heap.size wr W) => ih t t' xs xs' d' W (hrx.grow (keepB hW (keepB hb hb1))) (hrx'.grow (keepB hW (keepB hb hb1))) (by omega))
                  clear hra hra' hrx hrx' ih
                  go_upto_region 6 with fail
                  refine region_below (by kernel_rfl) (fun hHeld => ?_)
                  refine wpAnyH_take (i := 0) (v := ?_) rfl (by kernel_rfl) (by kernel_rfl) (by kernel_rfl) (fun _ _ _ h => h) (Or.inl ⟨by rfl, ?_⟩) hHeld ?_
                  rotate_left
                  · (intro w hSw; go_simp; (try with_reducible rfl))
                  simp only [Act.put, List.getElem_toArray, List.getElem_cons_zero, List.getElem_cons_succ, List.setIfInBounds_toArray, List.set_cons_zero, List.set_cons_succ]
                  refine wpAnyH_take (i := 1) (v := ?_) rfl (by kernel_rfl) (by kernel_rfl) (by kernel_rfl) (fun _ _ _ h => h) (Or.inl ⟨by rfl, ?_⟩) hHeld ?_
                  rotate_left
                  · (intro w hSw; go_simp; (try with_reducible rfl))
                  simp only [Act.put, List.getElem_toArray, List.getElem_cons_zero, List.getElem_cons_succ, List.setIfInBounds_toArray, List.set_cons_zero, List.set_cons_succ]
                  refine wpAnyH_take (i := 2) (v := ?_) rfl (by kernel_rfl) (by kernel_rfl) (by kernel_rfl) (fun _ _ _ h => h) (Or.inl ⟨by rfl, ?_⟩) hHeld ?_
                  rotate_left
                  · (intro w hSw; go_simp; (try with_reducible rfl))
                  simp only [Act.put, List.getElem_toArray, List.getElem_cons_zero, List.getElem_cons_succ, List.setIfInBounds_toArray, List.set_cons_zero, List.set_cons_succ]
                  refine wpAnyH_take (i := 3) (v := ?_) rfl (by kernel_rfl) (by kernel_rfl) (by kernel_rfl) (fun _ _ _ h => h) (Or.inl ⟨by rfl, ?_⟩) hHeld ?_
                  rotate_left
                  · (intro w hSw; go_simp; (try with_reducible rfl))
                  simp only [Act.put, List.getElem_toArray, List.getElem_cons_zero, List.getElem_cons_succ, List.setIfInBounds_toArray, List.set_cons_zero, List.set_cons_succ]
                  refine wpAnyH_take (i := 4) (v := .agg xs) rfl (by kernel_rfl) (by kernel_rfl) (by kernel_rfl) (fun _ _ _ h => h) (yieldsSub (by rfl) (.tmp 50) rfl b (o + k * 5) rfl xs hxs (fun W hW => HR.out W hW)) hHeld ?_
                  simp only [Act.put, List.getElem_toArray, List.getElem_cons_zero, List.getElem_cons_succ, List.setIfInBounds_toArray, List.set_cons_zero, List.set_cons_succ]
                  refine wpAnyH_take (i := 5) (v := ?_) rfl (by kernel_rfl) (by kernel_rfl) (by kernel_rfl) (fun _ _ _ h => h) (Or.inl ⟨by rfl, ?_⟩) hHeld ?_
                  rotate_left
                  · (intro w hSw; go_simp; (try with_reducible rfl))
                  simp only [Act.put, List.getElem_toArray, List.getElem_cons_zero, List.getElem_cons_succ, List.setIfInBounds_toArray, List.set_cons_zero, List.set_cons_succ]
                  refine wpAnyH_take (i := 6) (v := ?_) rfl (by kernel_rfl) (by kernel_rfl) (by kernel_rfl) (fun _ _ _ h => h) (Or.inl ⟨by rfl, ?_⟩) hHeld ?_
                  rotate_left
                  · (intro w hSw; go_simp; (try with_reducible rfl))
                  simp only [Act.put, List.getElem_toArray, List.getElem_cons_zero, List.getElem_cons_succ, List.setIfInBounds_toArray, List.set_cons_zero, List.set_cons_succ]
                  refine wpAnyH_take (i := 7) (v := ?_) rfl (by kernel_rfl) (by kernel_rfl) (by kernel_rfl) (fun _ _ _ h => h) (Or.inl ⟨by rfl, ?_⟩) hHeld ?_
                  rotate_left
                  · (intro w hSw; go_simp; (try with_reducible rfl))
                  simp only [Act.put, List.getElem_toArray, List.getElem_cons_zero, List.getElem_cons_succ, List.setIfInBounds_toArray, List.set_cons_zero, List.set_cons_succ]
                  refine wpAnyH_take (i := 8) (v := ?_) rfl (by kernel_rfl) (by kernel_rfl) (by kernel_rfl) (fun _ _ _ h => h) (Or.inl ⟨by rfl, ?_⟩) hHeld ?_
                  rotate_left
                  · (intro w hSw; go_simp; (try with_reducible rfl))
                  simp only [Act.put, List.getElem_toArray, List.getElem_cons_zero, List.getElem_cons_succ, List.setIfInBounds_toArray, List.set_cons_zero, List.set_cons_succ]
                  refine wpAnyH_take (i := 9) (v := .agg xs') rfl (by kernel_rfl) (by kernel_rfl) (by kernel_rfl) (fun _ _ _ h => h) (yieldsSub (by rfl) (.tmp 55) rfl b' (o' + k * 5) rfl xs' hxs' (fun W hW => HR'.out W hW)) hHeld ?_
                  simp only [Act.put, List.getElem_toArray, List.getElem_cons_zero, List.getElem_cons_succ, List.setIfInBounds_toArray, List.set_cons_zero, List.set_cons_succ]
                  refine wpAnyH_ready (rs := [10]) (by kernel_rfl) (by simp) ?_
                  refine AllReadyH.cons rfl (fun K hK => ?_) AllReadyH.nil
                  simp only [List.getElem_toArray, List.getElem_cons_zero, List.getElem_cons_succ]
                  go_simp
                  refine (HC.out _ hHeld).mono ?_
                  rintro e w8 ⟨rfl, hb8⟩
                  obtain ⟨v, hv⟩ : ∃ v, v = sameT t t' := ⟨_, rfl⟩
                  rw [← hv] at HTk HNo ⊢
                  clear hv
                  go_wp2_with fail
                  have hB8 := keepB hb8 hHeld
                  refine hK.out _ _ hB8 (fun _ => ?_)
                  clear hK K
                  try simp only [Act.put, List.setIfInBounds_toArray, List.set_cons_zero, List.set_cons_succ]
                  refine anyH_rebase hB8 (fun hHeld => ?_)
                  have hbw8 := keepB hB8 hb
                  refine wpAnyH_take (i := 11) (v := ?_) rfl (by kernel_rfl) (by kernel_rfl) (by kernel_rfl) (fun _ _ _ h => h) (Or.inl ⟨by rfl, ?_⟩) hHeld ?_
                  rotate_left
                  · (intro w hSw; go_simp; (try with_reducible rfl))
                  simp only [Act.put, List.getElem_toArray, List.getElem_cons_zero, List.getElem_cons_succ, List.setIfInBounds_toArray, List.set_cons_zero, List.set_cons_succ]
                  refine wpAnyH_done (by kernel_rfl) ?_ _
                  clear hHeld q1 q2 hd
                  cases v with
                  | true =>
                    go_wp2_with fail
                    go_roundw
                    case rel => exact ⟨k + 1, by go_num, by omega, by rw [HTk.out, Hs.out]; rfl, hbw8⟩
                    case measure => simp [intOf]; omega
                  | false =>
                    have HF := Lib.hid (HS.out.trans (HNo.out rfl))
                    go_wp2_with fail
                    go_ret
                    exact ⟨by rw [HF.out]; rfl, keepB hbw8 hb1⟩
                · obtain rfl : k = l.length := by omega
                  have hd : decide ((l.length : Int) < (l.length : Int)) = false := by simp
                  have hz : sameL l l' = true := by
                    have h := Hs.out
                    rw [List.take_length, e4, List.take_length] at h
                    exact h
                  have HF := Lib.hid (HS.out.trans hz)
                  clear hz
                  go_wp2_with fail
                  go_ret
                  exact ⟨by rw [HF.out]; rfl, keepB hb hb1⟩
            · have f4 : ((l.length : Int) != (l'.length : Int)) = true := by simp; omega
              have HS := Lib.hid (show sameT (.node op n m who l) (.node op n m who l') = false by simp [sameT, e4])
              clear e4
              go_wp2_with fail
              all_goals go_ret
              all_goals exact ⟨by rw [HS.out]; rfl, hb1⟩
          · have f4 : (who != who') = true := by simpa using e3
            have HS := Lib.hid (show sameT (.node op n m who l) (.node op n m who' l') = false by simp [sameT, e3])
            clear e3
            go_wp2_with fail
            all_goals go_ret
            all_goals exact ⟨by rw [HS.out]; rfl, hb1⟩
        · have f4 : (m != m') = true := by simpa using e2
          have HS := Lib.hid (show sameT (.node op n m who l) (.node op n m' who' l') = false by simp [sameT, e2])
          clear e2
          go_wp2_with fail
          all_goals go_ret
          all_goals exact ⟨by rw [HS.out]; rfl, hb1⟩
      · have f4 : (n != n') = true := by simpa using e1
        have HS := Lib.hid (show sameT (.node op n m who l) (.node op n' m' who' l') = false by simp [sameT, e1])
        clear e1
        go_wp2_with fail
        all_goals go_ret
        all_goals exact ⟨by rw [HS.out]; rfl, hb1⟩
    · have f4 : (op != op') = true := by simpa using e0
      have HS := Lib.hid (show sameT (.node op n m who l) (.node op' n' m' who' l') = false by simp [sameT, e0])
      clear e0
      go_wp2_with fail
      all_goals go_ret
      all_goals exact ⟨by rw [HS.out]; rfl, hb1⟩
end Go.Proofs.YtmdfgkfimlmmnaaDoor
