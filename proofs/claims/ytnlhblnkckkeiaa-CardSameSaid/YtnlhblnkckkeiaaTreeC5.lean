/- Layer 6: contracts of effect's Same and of slices.EqualFunc over it. -/
import Derived.Test.YtnlhblnkckkeiaaTreeSame
namespace Go.Proofs.Ytnlhblnkckkeiaa
open Go.RowKit Ex
/-- The contract of Same, of effects of which the first is at most d deep. -/
def SmAt (d : Nat) : Prop := ∀ (t t' : ET) (cs cs' : Array Value) (d' : Nat) (w : World), Reads w.heap.size w d cs t → Reads w.heap.size w d' cs' t' → sizeT t ≤ 1000000 →
  Calls Try.prog 43 #[.agg cs, .agg cs'] w fun e w' => e = .returned (.bool (sameT t t')) ∧ Below w.heap.size w w'
/-- The list at A reads as these effects. -/
def RdL (w : World) (d : Nat) (A : Option Addr) (l : List ET) : Prop := ∀ i t, l[i]? = some t → ∃ b o xs, A = some ⟨b, o, none⟩ ∧ b < w.heap.size ∧ w.rangeAt b (o + i * 5) xs.toList ∧ Reads w.heap.size w d xs t
theorem RdL.keep {w w' : World} {d : Nat} {A : Option Addr} {l : List ET} (h : RdL w d A l) (hb : Below w.heap.size w w') : RdL w' d A l := fun i t hi => by
  obtain ⟨b, o, xs, h1, h2, h3, h4⟩ := h i t hi
  exact ⟨b, o, xs, h1, by have := hb.size; omega, rangeAt_below hb h2 h3, h4.grow hb⟩
def EqRel (w : World) (l l' : List ET) (i : Value) (wr : World) : Prop :=
  ∃ k : Nat, i = .int .i64 ((k : Nat) : Int) ∧ k ≤ l.length ∧ sameL (l.take k) (l'.take k) = true ∧ Below w.heap.size w wr
set_option linter.unusedSimpArgs false in
set_option maxRecDepth 100000 in
set_option maxHeartbeats 1000000 in
theorem equalFunc_step (d d' : Nat) (ih : SmAt d) (l l' : List ET) (A A' : Option Addr) (c c' : Nat) (w : World) (hx : RdL w d A l) (hx' : RdL w d' A' l') (hs : sizeL l ≤ 1000000) :
    Calls Try.prog 52 #[.slice A l.length c, .slice A' l'.length c', .func (Fn.func 43) #[] #[]] w fun e w' => e = .returned (.bool (l.length == l'.length && sameL l l')) ∧ Below w.heap.size w w' := by
  have HX := Lib.hid hx
  have HX' := Lib.hid hx'
  have hlen := sizeL_len l
  clear hx hx'
  by_cases e4 : l.length = l'.length
  · have HS := Lib.hid (show (l.length == l'.length && sameL l l') = sameL l l' by simp [e4])
    have f4 : ((l.length : Int) != (l'.length : Int)) = false := by simp [e4]
    have HE4 := Lib.hid e4
    clear e4
    go_enter Try.func52, Try.ntmps52
    go_upto_region 4 with fail
    go_loopw [17] (fun i wr => EqRel w l l' i wr) (fun i _ => l.length - (intOf i).toNat)
    case atStart => exact ⟨0, rfl, by omega, by simp [sameL], Below.refl _ _⟩
    case round =>
      obtain ⟨k, rfl, hk, hsm, hb⟩ := hrel
      have Hs := Lib.hid hsm
      clear hsm
      clear f4
      by_cases hlt : k < l.length
      · have hlt' : k < l'.length := by have := HE4.out; omega
        obtain ⟨t, ht⟩ : ∃ t, l[k]? = some t := ⟨_, List.getElem?_eq_getElem hlt⟩
        obtain ⟨t', ht'⟩ : ∃ t', l'[k]? = some t' := ⟨_, List.getElem?_eq_getElem hlt'⟩
        obtain ⟨b, o, xs, rfl, hbb, hra, hrx⟩ := HX.out.keep hb k t ht
        obtain ⟨b', o', xs', rfl, hbb', hra', hrx'⟩ := HX'.out.keep hb k t' ht'
        have hts := size_mem ht
        have HTk := Lib.hid (sameL_take l l' k t t' ht ht')
        have HNo := Lib.hid (sameL_no l l' k t t' ht ht')
        have hd : decide ((k : Int) < (l.length : Int)) = true := by simp; omega
        have hkr : k < 1000000 := by omega
        have g0 : (0 : Int) ≤ (k : Int) := by omega
        have g1 : (k : Int) < (l.length : Int) := by omega
        have g2 : (k : Int) < (l'.length : Int) := by omega
        clear hlt'
        go_upto_region 5 with fail
        have hz1 := hrx.size
        have ho1 := hrx.one
        have hs1 : (Try.prog.info? 42).map (·.size) = some xs.size := by rw [hz1]; exact size5
        have hraw := hra
        have hnew : (wr.alloc (.cells zeroE 42)).heap[wr.heap.size]? = some (.cells zeroE 42 (0, 0)) := heap_alloc_new _ _
        go_upto_region 6 with (first
          | (refine load_sub rfl (.tmp 20) rfl b (o + k * 5) rfl xs hz1 hraw ?_)
          | (refine wpList_store_row rfl 42 (.tmp 8) (.tmp 21) rfl wr.heap.size _ rfl rfl 42 zeroE hnew hs1 (by rw [hz1]; rfl) ho1 ?_))
        obtain ⟨w2, hwn, hE2, hb2⟩ := ev_box wr (xs := xs)
        rw [← hwn]
        clear hwn hnew hraw ho1
        have hz2 := hrx'.size
        have ho2 := hrx'.one
        have hs2 : (Try.prog.info? 42).map (·.size) = some xs'.size := by rw [hz2]; exact size5
        have hraw := (rangeAt_below hb2 hbb' hra')
        have hnew : (w2.alloc (.cells zeroE 42)).heap[w2.heap.size]? = some (.cells zeroE 42 (0, 0)) := heap_alloc_new _ _
        go_upto_region 7 with (first
          | (refine load_sub rfl (.tmp 24) rfl b' (o' + k * 5) rfl xs' hz2 hraw ?_)
          | (refine wpList_store_row rfl 42 (.tmp 9) (.tmp 25) rfl w2.heap.size _ rfl rfl 42 zeroE hnew hs2 (by rw [hz2]; rfl) ho2 ?_))
        obtain ⟨w3, hwn, hE3, hb3⟩ := ev_box w2 (xs := xs')
        rw [← hwn]
        clear hwn hnew hraw ho2
        have hE23 := hE2.keep hb3
        have hbw := keepB hb3 hb2
        go_wp2_with (first
          | (refine wpList_load_row rfl 42 (.tmp 8) rfl wr.heap.size rfl 42 _ (0, 0) _ hE23 Try.underlying42 rfl hs1 ?_)
          | (refine wpList_load_row rfl 42 (.tmp 9) rfl w2.heap.size rfl 42 _ (0, 0) _ hE3 Try.underlying42 rfl hs2 ?_))
        refine (ih t t' xs xs' d' w3 (hrx.grow hbw) (hrx'.grow hbw) (by omega)).mono ?_
        rintro e w4 ⟨rfl, hb4⟩
        have hbw4 := keepB hb4 (keepB hbw hb)
        obtain ⟨v, hv⟩ : ∃ v, v = sameT t t' := ⟨_, rfl⟩
        rw [← hv] at HTk HNo ⊢
        clear hv hE2 hE3 hE23 hb2 hb3 hb4 hbw hd hra hra' hrx hrx'
        cases v with
        | true =>
          go_wp2_with fail
          go_roundw
          case rel => exact ⟨k + 1, by go_num, by omega, by rw [HTk.out, Hs.out]; rfl, hbw4⟩
          case measure => simp [intOf]; omega
        | false =>
          have HF := Lib.hid (HS.out.trans (HNo.out rfl))
          go_wp2_with fail
          go_ret
          exact ⟨by rw [HF.out]; rfl, hbw4⟩
      · obtain rfl : k = l.length := by omega
        have hd : decide ((l.length : Int) < (l.length : Int)) = false := by simp
        have hz : sameL l l' = true := by
          have h := Hs.out
          rw [List.take_length, HE4.out, List.take_length] at h
          exact h
        have HF := Lib.hid (HS.out.trans hz)
        clear hz
        go_wp2_with fail
        go_ret
        exact ⟨by rw [HF.out]; rfl, hb⟩
  · have HS := Lib.hid (show (l.length == l'.length && sameL l l') = false by simp [e4])
    have f4 : ((l.length : Int) != (l'.length : Int)) = true := by simp; omega
    clear e4
    go_enter Try.func52, Try.ntmps52
    go_wp2_with fail
    go_ret
    exact ⟨by rw [HS.out]; rfl, Below.refl _ _⟩
set_option linter.unusedSimpArgs false in
set_option maxRecDepth 100000 in
set_option maxHeartbeats 2000000 in
theorem same_any : ∀ d, SmAt d := by
  intro d
  induction d with
  | zero => exact fun t t' cs cs' d' w h => absurd h id
  | succ d ih =>
    intro t t' cs cs' d' w hr hr' hsz
    cases d' with
    | zero => exact absurd hr' id
    | succ d' =>
    obtain ⟨op, n, m, who, l⟩ := t
    obtain ⟨op', n', m', who', l'⟩ := t'
    obtain ⟨_, _, _, _, A, c, hcs, hl, hc, hx⟩ := hr
    obtain ⟨_, _, _, _, A', c', hcs', hl', hc', hx'⟩ := hr'
    have HX := Lib.hid (show RdL w d A l from hx)
    have HX' := Lib.hid (show RdL w d' A' l' from hx')
    have HCs := Lib.hid hcs
    have HCs' := Lib.hid hcs'
    simp only [sizeT] at hsz
    clear hx hx' hcs hcs'
    go_enter Try.func43, Try.ntmps43
    go_upto_region 1 with fail
    obtain ⟨w1, hw1⟩ : ∃ w1, w1 = (w.alloc (.cells cs 42)).alloc (.cells cs' 42) := ⟨_, rfl⟩
    have hE : EvAt w1 w.heap.size cs := by rw [hw1]; exact (EvAt.new w cs).keep ((Below.refl _ _).alloc (Nat.le_refl _) _)
    have hE' : EvAt w1 (w.heap.size + 1) cs' := by
      have h := EvAt.new (w.alloc (.cells cs 42)) cs'
      rw [hw1]; simpa using h
    have hb1 : Below w.heap.size w w1 := by rw [hw1]; exact ((Below.refl _ _).alloc (Nat.le_refl _) _).alloc (by simp) _
    rw [← hw1]
    clear hw1
    have c0 : w1.cell? ⟨w.heap.size, 0, none⟩ = some (.int .i64 op) := by rw [hE.cell, HCs.out]; rfl
    have c1 : w1.cell? ⟨w.heap.size, 1, none⟩ = some (.int .i64 n) := by rw [hE.cell, HCs.out]; rfl
    have c2 : w1.cell? ⟨w.heap.size, 2, none⟩ = some (.int .i64 m) := by rw [hE.cell, HCs.out]; rfl
    have c3 : w1.cell? ⟨w.heap.size, 3, none⟩ = some (.int .i64 who) := by rw [hE.cell, HCs.out]; rfl
    have c4 : w1.cell? ⟨w.heap.size, 4, none⟩ = some (.slice A l.length c) := by rw [hE.cell, HCs.out]; rfl
    have k0 : w1.cell? ⟨w.heap.size + 1, 0, none⟩ = some (.int .i64 op') := by rw [hE'.cell, HCs'.out]; rfl
    have k1 : w1.cell? ⟨w.heap.size + 1, 1, none⟩ = some (.int .i64 n') := by rw [hE'.cell, HCs'.out]; rfl
    have k2 : w1.cell? ⟨w.heap.size + 1, 2, none⟩ = some (.int .i64 m') := by rw [hE'.cell, HCs'.out]; rfl
    have k3 : w1.cell? ⟨w.heap.size + 1, 3, none⟩ = some (.int .i64 who') := by rw [hE'.cell, HCs'.out]; rfl
    have k4 : w1.cell? ⟨w.heap.size + 1, 4, none⟩ = some (.slice A' l'.length c') := by rw [hE'.cell, HCs'.out]; rfl
    clear hE hE'
    by_cases e0 : op = op'
    · subst e0
      by_cases e1 : n = n'
      · subst e1
        by_cases e2 : m = m'
        · subst e2
          by_cases e3 : who = who'
          · subst e3
            have HS := Lib.hid (show sameT (.node op n m who l) (.node op n m who l') = (l.length == l'.length && sameL l l') by simp [sameT])
            go_wp2_with fail
            refine (equalFunc_step d d' ih l l' A A' c c' w1 (HX.out.keep hb1) (HX'.out.keep hb1) (by omega)).mono ?_
            rintro e w2 ⟨rfl, hb2⟩
            obtain ⟨q, hq⟩ : ∃ q : Bool, q = (l.length == l'.length && sameL l l') := ⟨_, rfl⟩
            rw [← hq] at HS ⊢
            clear hq
            go_wp2_with fail
            go_ret
            exact ⟨by rw [HS.out]; rfl, keepB hb2 hb1⟩
          · have f4 : (who == who') = false := by simpa using e3
            have HS := Lib.hid (show sameT (.node op n m who l) (.node op n m who' l') = false by simp [sameT, e3])
            clear e3
            go_wp2_with fail
            all_goals go_ret
            all_goals exact ⟨by rw [HS.out]; rfl, hb1⟩
        · have f4 : (m == m') = false := by simpa using e2
          have HS := Lib.hid (show sameT (.node op n m who l) (.node op n m' who' l') = false by simp [sameT, e2])
          clear e2
          go_wp2_with fail
          all_goals go_ret
          all_goals exact ⟨by rw [HS.out]; rfl, hb1⟩
      · have f4 : (n == n') = false := by simpa using e1
        have HS := Lib.hid (show sameT (.node op n m who l) (.node op n' m' who' l') = false by simp [sameT, e1])
        clear e1
        go_wp2_with fail
        all_goals go_ret
        all_goals exact ⟨by rw [HS.out]; rfl, hb1⟩
    · have f4 : (op == op') = false := by simpa using e0
      have HS := Lib.hid (show sameT (.node op n m who l) (.node op' n' m' who' l') = false by simp [sameT, e0])
      clear e0
      go_wp2_with fail
      all_goals go_ret
      all_goals exact ⟨by rw [HS.out]; rfl, hb1⟩
end Go.Proofs.Ytnlhblnkckkeiaa
