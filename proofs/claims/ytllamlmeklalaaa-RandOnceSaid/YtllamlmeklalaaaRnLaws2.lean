/- Layer 16: the law RandOnce. -/
import Derived.Test.YtllamlmeklalaaaRnAlive
import Derived.Test.YtllamlmeklalaaaOwnSet
import Derived.Deep.OwnRows
namespace Go.Proofs.Ytllamlmeklalaaa
open Go.RowKit
set_option maxRecDepth 100000
theorem ord_cases (l : List Int) (cur m : Int) : (∃ e, e ≠ 0 ∧ ordD l cur m = ([], 0, e) ∧ (m < 0 ∨ 400 < m ∨ cur < 0 ∨ 4096 < l.length ∨ leftD l cur < needD m)) ∨
    (∃ N k0 : Nat, m = (N : Int) ∧ cur = (k0 : Int) ∧ N ≤ 400 ∧ ordD l cur m = (ordAt l k0 N (N - 1), cur + needD m, 0) ∧ (1 < N → k0 + (N - 1) ≤ l.length)) := by
  unfold ordD
  by_cases h1 : 4096 < l.length
  · exact .inl ⟨19, by decide, if_pos h1, .inr (.inr (.inr (.inl h1)))⟩
  rw [if_neg h1]
  by_cases h2 : m < 0 ∨ 400 < m ∨ cur < 0
  · exact .inl ⟨1, by decide, if_pos h2, by omega⟩
  rw [if_neg h2]
  by_cases h3 : leftD l cur < needD m
  · exact .inl ⟨13, by decide, if_pos h3, .inr (.inr (.inr (.inr h3)))⟩
  rw [if_neg h3]
  obtain ⟨k0, rfl⟩ := Int.eq_ofNat_of_zero_le (show 0 ≤ cur by omega)
  obtain ⟨N, rfl⟩ := Int.eq_ofNat_of_zero_le (show 0 ≤ m by omega)
  refine .inr ⟨N, k0, rfl, rfl, by omega, by simp only [Int.toNat_natCast], fun hN => ?_⟩
  unfold leftD needD at h3
  rw [if_neg (show ¬ (N : Int) < 1 by omega)] at h3
  split at h3 <;> omega
/-- What has been seen when k places of the order are over. -/
structure SeenR (o : List Int) (N k : Nat) (sl : List Bool) : Prop where
  n : sl.length = N
  s : ∀ i : Nat, i < N → (sl[i]? = some true ↔ (i : Int) ∈ o.take k)
theorem SeenR.start {o : List Int} {N : Nat} : SeenR o N 0 (List.replicate N false) := ⟨by simp, fun i hi => by simp [List.getElem?_replicate]⟩
theorem SeenR.next {o : List Int} {N k x : Nat} {sl : List Bool} (h : SeenR o N k sl) (hx : o[k]? = some (x : Int)) (hxN : x < N) : SeenR o N (k + 1) (sl.set x true) :=
  ⟨by rw [List.length_set]; exact h.n, fun i hi => by
    rw [List.take_add_one, hx, List.mem_append, ← h.s i hi, List.getElem?_set]
    have hn := h.n
    by_cases e : x = i
    · subst e; simp [hn, hxN]
    · rw [if_neg e]; simp; omega⟩
def BoolsR (w : World) (g : Nat) (l : List Bool) : Prop := w.heap[g]? = some (.cells (l.map Value.bool).toArray 4 (0, 0))
theorem BoolsR.at_ {w : World} {g : Nat} {l : List Bool} (h : BoolsR w g l) {i : Nat} {b : Bool} (hi : l[i]? = some b) : w.cell? ⟨g, i, none⟩ = some (.bool b) := by
  rw [cell_of_row w g i _ _ _ h]; simp [hi]
theorem BoolsR.set_ {w : World} {g : Nat} {l : List Bool} (h : BoolsR w g l) (i : Nat) (b : Bool) : BoolsR (w.setCell ⟨g, i, none⟩ (.bool b)) g (l.set i b) := by
  unfold BoolsR
  rw [heap_setCell_same w g i _ _ _ h]
  simp [List.map_set]
theorem BoolsR.new (W : World) (n : Nat) : BoolsR (W.alloc (.cells (madeCells #[Value.bool false] n) 4)) W.heap.size (List.replicate n false) := by
  have e : madeCells #[Value.bool false] n = ((List.replicate n false).map Value.bool).toArray := by
    apply Array.ext
    · simp [madeCells]
    · intro i h1 h2; simp [madeCells, Nat.mod_one]
  unfold BoolsR
  rw [e]
  exact heap_alloc_new _ _
theorem info_boolR : (Try.prog.info? 4).map (fun i => (i.zero, i.size, i.bytes)) = some (some (.bool false), 1, 1) := by kernel_rfl
theorem make_boolsR (n : Nat) (hn : n ≤ 100000) (W : World) : (Instr.makeSlice 40 (.int .i64 (n : Int)) (.int .i64 (n : Int))).run Try.prog W = .ok (.slice (some ⟨W.heap.size, 0, none⟩) n n) (W.alloc (.cells (madeCells #[Value.bool false] n) 4)) :=
  run_make_row' 40 4 (.bool false) 1 Try.underlying40 info_boolR rfl .i64 .i64 n (by omega) (by omega) W
set_option maxHeartbeats 2000000 in
theorem randOnce_walk {w : World} (E : RnSaid w) (A : Option Addr) (n c : Nat) (l : List Int) (cur m : Int) (hN : Nums .i64 w w.heap.size A n l) (hc : n ≤ c) (hl : ∀ x ∈ l, N64 x) (hcur : N64 cur) (hm : N64 m) :
    Calls Try.prog 5 #[.slice A n c, .int .i64 cur, .int .i64 m] w fun en w' => en = .returned (.bool true) ∧ Below w.heap.size w w' := by
  have HN := Lib.hid hN
  have HH := Lib.hid (show (∀ x ∈ l, N64 x) ∧ N64 cur ∧ N64 m from ⟨hl, hcur, hm⟩)
  have HL := Lib.hid hN.len
  clear hN hl hcur hm
  go_enter Try.func5, Try.ntmps5
  go_wp2_with fail
  refine (rnAlive E w (Below.refl _ _)).mono ?_
  rintro en w1 ⟨rfl, hb1⟩
  by_cases h5 : 5000 < n
  · have d5 : decide ((5000 : Int) < (n : Int)) = true := by simp; omega
    go_wp2_with fail
    go_ret
    exact ⟨rfl, hb1⟩
  have d5 : decide ((5000 : Int) < (n : Int)) = false := by simp; omega
  have hn5 : n ≤ 5000 := by omega
  have hp1 := E.order A n c l cur m w1 (HN.out.below hb1 |>.more hb1.size) hc hn5 HH.out.1 HH.out.2.1 HH.out.2.2 hb1
  unfold OrdP at hp1
  go_wp2_with fail
  refine hp1.mono ?_
  rintro en w2 ⟨A2, n2, c2, rfl, hc2, hN2, hb2⟩
  have hb2' := keepB hb2 hb1
  clear hp1 hb2 hb1
  rcases ord_cases l cur m with ⟨e, he, hq, hwhy⟩ | ⟨N, k0, rfl, rfl, hN4, hq, hlen⟩
  · rw [hq] at hN2 ⊢
    obtain rfl : 0 = n2 := hN2.len
    rw [show errV (([] : List Int), (0 : Int), e).2.2 = errV e from rfl, errV_err he]
    clear hN2
    by_cases h1 : m < 0
    · have d1 : decide (m < 0) = true := by simp; omega
      clear hwhy
      go_wp2_with fail
      go_ret
      exact ⟨rfl, hb2'⟩
    have d1 : decide (m < 0) = false := by simp; omega
    by_cases h2 : 400 < m
    · have d2 : decide (400 < m) = true := by simp; omega
      clear hwhy
      go_wp2_with fail
      go_ret
      exact ⟨rfl, hb2'⟩
    have d2 : decide (400 < m) = false := by simp; omega
    by_cases h3 : cur < 0
    · have d3 : decide (cur < 0) = true := by simp; omega
      clear hwhy
      go_wp2_with fail
      go_ret
      exact ⟨rfl, hb2'⟩
    have d3 : decide (cur < 0) = false := by simp; omega
    by_cases h4 : 4096 < n
    · have d4 : decide ((4096 : Int) < (n : Int)) = true := by simp; omega
      clear hwhy
      go_wp2_with fail
      go_ret
      exact ⟨rfl, hb2'⟩
    have d4 : decide ((4096 : Int) < (n : Int)) = false := by simp; omega
    have hlt : leftD l cur < needD m := by have := HL.out; omega
    have h7 := E.left A n c l cur w2 (HN.out.below hb2' |>.more hb2'.size) hc hn5 HH.out.2.1 hb2'
    have h8 := E.needs m
    obtain ⟨lf, hlf⟩ : ∃ lf, lf = leftD l cur := ⟨_, rfl⟩
    obtain ⟨nd, hnd⟩ : ∃ nd, nd = needD m := ⟨_, rfl⟩
    rw [← hlf] at h7 hlt
    rw [← hnd] at h8 hlt
    have d6 : decide (lf < nd) = true := by simp [hlt]
    have H8 := Lib.hid h8
    clear hwhy hlf hnd hlt h8
    go_wp2_with fail
    refine h7.mono ?_
    rintro en w3 ⟨rfl, hb3⟩
    have hb3' := keepB hb3 hb2'
    clear h7
    go_wp2_with fail
    refine (H8.out w3 HH.out.2.2 hb3').mono ?_
    rintro en w4 ⟨rfl, hb4⟩
    have hb4' := keepB hb4 hb3'
    go_wp2_with fail
    go_ret
    exact ⟨rfl, hb4'⟩
  · rw [hq] at hN2 ⊢
    have hlo := ord_len l k0 N (N - 1)
    have hnod : 1 ≤ N → (ordAt l k0 N (N - 1)).Nodup ∧ ∀ x ∈ ordAt l k0 N (N - 1), 0 ≤ x ∧ x < (N : Int) := fun h => by
      have hp := ord_perm l k0 N (N - 1) (by omega)
      exact ⟨hp.nodup_iff.2 (upto_nodup N), fun x hx => upto_mem.1 (hp.mem_iff.1 hx)⟩
    obtain ⟨o, ho⟩ : ∃ o, o = ordAt l k0 N (N - 1) := ⟨_, rfl⟩
    obtain ⟨nd, hnd⟩ : ∃ nd, nd = needD (N : Int) := ⟨_, rfl⟩
    have h8 := fun W => E.needs (N : Int) W HH.out.2.2
    rw [← ho] at hN2 hlo hnod
    rw [← hnd] at h8
    have hs : (k0 : Int) + nd ≤ 9223372036854775807 ∧ 0 ≤ nd := by
      have h1 := HH.out.2.1
      have h2 := HL.out
      unfold N64 at h1
      rw [hnd]; unfold needD
      split
      · omega
      · by_cases h3 : 1 < N
        · have := hlen h3; omega
        · omega
    obtain rfl : N = n2 := by have := hN2.len; simp only at this; omega
    rw [show (ordAt l k0 N (N - 1), (k0 : Int) + needD (N : Int), (0 : Int)).2.1 = (k0 : Int) + nd from by rw [hnd], show errV (ordAt l k0 N (N - 1), (k0 : Int) + needD (N : Int), (0 : Int)).2.2 = .nilIface from errV_nil]
    obtain ⟨hs1, hs2⟩ := hs
    have HN2 := Lib.hid (show Nums .i64 w2 w2.heap.size A2 N o from hN2)
    have HO := Lib.hid (And.intro hlo hnod)
    clear ho hnd hq hlen hN2 hlo hnod
    go_wp2_with fail
    refine (h8 w2 hb2').mono ?_
    rintro en w3 ⟨rfl, hb3⟩
    have hb3' := keepB hb3 hb2'
    have HN3 := Lib.hid ((HN2.out.below hb3).more hb3.size)
    clear h8 HN2 hb2'
    have hmk := make_boolsR N (by omega)
    go_upto_region 11 with fail
    clear hs1 hs2
    have hbA : Below w3.heap.size w3 (w3.alloc (.cells (madeCells #[Value.bool false] N) 4)) := (Below.refl _ _).alloc (Nat.le_refl _) _
    have hBn := BoolsR.new w3 N
    obtain ⟨w4, hw4⟩ : ∃ w4, w4 = w3.alloc (.cells (madeCells #[Value.bool false] N) 4) := ⟨_, rfl⟩
    obtain ⟨gb, hgb⟩ : ∃ g, g = w3.heap.size := ⟨_, rfl⟩
    rw [← hw4] at hbA hBn
    rw [← hgb] at hBn
    rw [← hw4, ← hgb]
    have HN4 := Lib.hid ((HN3.out.below hbA).more hbA.size)
    have HB4 := Lib.hid (keepB hbA hb3')
    have HG := Lib.hid (show w.heap.size ≤ gb ∧ w2.heap.size ≤ gb ∧ gb < w4.heap.size from ⟨by rw [hgb]; exact hb3'.size, by rw [hgb]; exact hb3.size, (Array.getElem?_eq_some_iff.1 hBn).1⟩)
    have HNlow := Lib.hid (show ∀ W, Below gb w4 W → Nums .i64 W gb A2 N o from fun W hW => by
      have h := HN3.out.below hbA
      rw [← hgb] at h
      exact h.below hW)
    have HR0 := Lib.hid (show BoolsR w4 gb (List.replicate N false) ∧ SeenR o N 0 (List.replicate N false) ∧ Below gb w4 w4 from ⟨hBn, SeenR.start, Below.refl _ _⟩)
    clear hmk hw4 hgb hbA hBn hb3 hb3' HN3
    go_upto_region 12 with fail
    have f1 : (N : Int) ≤ 400 := by omega
    go_loopw [76] (fun i wr => ∃ (k : Nat) (sl : List Bool), i = .int .i64 ((k : Nat) : Int) ∧ k ≤ N ∧ Hid (BoolsR wr gb sl ∧ SeenR o N k sl ∧ Below gb w4 wr)) (fun i _ => N - (intOf i).toNat)
    case atStart => exact ⟨0, _, rfl, by omega, HR0⟩
    case round =>
      clear HR0
      obtain ⟨k, sl, rfl, hk, HR⟩ := hrel
      by_cases hlt : k < N
      · have d0 : decide ((k : Int) < (N : Int)) = true := by simp; omega
        have hko : k < o.length := by rw [HO.out.1]; exact hlt
        obtain ⟨a, hA, _, hcell⟩ := (HNlow.out wr HR.out.2.2).at_ hko
        subst hA
        obtain ⟨hnd, hrng⟩ := HO.out.2 (by omega)
        obtain ⟨x0, x1⟩ := hrng _ (List.getElem_mem hko)
        obtain ⟨x, hx⟩ := Int.eq_ofNat_of_zero_le x0
        rw [hx] at hcell x1
        have hox : o[k]? = some (x : Int) := by rw [List.getElem?_eq_getElem hko, hx]
        have hxN : x < N := by omega
        have hnew : (x : Int) ∉ o.take k := fun hm => by
          obtain ⟨i, hi⟩ := List.mem_iff_getElem?.1 hm
          have hik : i < k := by have := (List.getElem?_eq_some_iff.1 hi).1; rw [List.length_take] at this; omega
          rw [List.getElem?_take_of_lt hik] at hi
          have h1 := List.pairwise_iff_getElem.1 hnd i k (by omega) hko hik
          obtain ⟨h2, h3⟩ := List.getElem?_eq_some_iff.1 hi
          exact h1 (h3.trans hx.symm)
        have hsl : sl[x]? = some false := by
          have hxl : x < sl.length := by rw [HR.out.2.1.n]; exact hxN
          have h := HR.out.2.1.s x hxN
          cases hb : sl[x] with
          | true => exact absurd (h.1 (by rw [List.getElem?_eq_getElem hxl, hb])) hnew
          | false => rw [List.getElem?_eq_getElem hxl, hb]
        have cb := HR.out.1.at_ hsl
        have fb : wr.frozen? ⟨gb, x, none⟩ = false := frozen_of_row wr gb x _ _ HR.out.1
        have HR2 := Lib.hid (show BoolsR (wr.setCell ⟨gb, x, none⟩ (.bool true)) gb (sl.set x true) ∧ SeenR o N (k + 1) (sl.set x true) ∧ Below gb w4 (wr.setCell ⟨gb, x, none⟩ (.bool true)) from
          ⟨HR.out.1.set_ x true, HR.out.2.1.next hox hxN, HR.out.2.2.setCell (Nat.le_refl _) _⟩)
        have d1 : decide ((x : Int) < 0) = false := by simp
        have d2 : decide ((N : Int) ≤ (x : Int)) = false := by simp; omega
        have g0 : (0 : Int) ≤ (k : Int) := by omega
        have g1 : (k : Int) < (N : Int) := by omega
        have g2 : (0 : Int) ≤ (x : Int) := by omega
        clear hx x0 hox hnew hsl hnd hrng hko HR
        go_wp2_with fail
        go_roundw
        case rel => exact ⟨k + 1, _, by go_num, by omega, HR2⟩
        case measure => simp [intOf]; omega
      · obtain rfl : k = N := by omega
        have d0 : decide ((k : Int) < (k : Int)) = false := by simp
        have hfin := HB4.out.trans (HR.out.2.2.mono HG.out.1)
        go_wp2_with fail
        go_ret
        exact ⟨rfl, hfin⟩
end Go.Proofs.Ytllamlmeklalaaa
