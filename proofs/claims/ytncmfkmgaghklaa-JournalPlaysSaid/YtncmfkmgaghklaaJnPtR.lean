/- Layer 14: the document's journal in memory; its Find, All. -/
import Derived.Test.YtncmfkmgaghklaaJnPart
import Derived.Test.YtncmfkmgaghklaaNtEv2
namespace Go.Proofs.Ytncmfkmgaghklaa
open Go.RowKit Ex
set_option maxRecDepth 100000
def allPs (P : PT) : List (Int × List EvT) := (0, P.f) :: P.r
/-- Parts that stand one behind the other. -/
structure PtR (B : Nat) (w : World) (A : Option Addr) (n : Nat) (ps : List (Int × List EvT)) : Prop where
  n : n = ps.length
  r : ∀ (i : Nat) (p : Int × List EvT), ps[i]? = some p → ∃ b off A' n' c', A = some ⟨b, off, none⟩ ∧ b < B ∧ w.cell? ⟨b, off + i * 2, none⟩ = some (.int .i64 p.1) ∧ w.cell? ⟨b, off + i * 2 + 1, none⟩ = some (.slice A' n' c') ∧ n' ≤ c' ∧ Evs B w A' n' p.2
  i : ∀ p ∈ ps, N64 p.1
section
variable {B B' n : Nat} {w w' : World} {A : Option Addr} {ps : List (Int × List EvT)}
theorem PtR.below (h : PtR B w A n ps) (hb : Below B w w') : PtR B w' A n ps := ⟨h.n, fun i p hp => by
  obtain ⟨b, off, A', n', c', h1, h2, h3, h4, h5, h6⟩ := h.r i p hp
  exact ⟨b, off, A', n', c', h1, h2, (hb.cell (by simpa using h2)).trans h3, (hb.cell (by simpa using h2)).trans h4, h5, h6.below hb⟩, h.i⟩
theorem PtR.more (h : PtR B w A n ps) (hB : B ≤ B') : PtR B' w A n ps := ⟨h.n, fun i p hp => by
  obtain ⟨b, off, A', n', c', h1, h2, h3, h4, h5, h6⟩ := h.r i p hp
  exact ⟨b, off, A', n', c', h1, by omega, h3, h4, h5, h6.more hB⟩, h.i⟩
theorem PtR.grow (h : PtR w.heap.size w A n ps) (hb : Below w.heap.size w w') : PtR w'.heap.size w' A n ps := (h.below hb).more hb.size
end
/-- The place of a checkpoint's part, from k on; -1: none. -/
def fidx (r : List (Int × List EvT)) (c : Int) (k : Nat) : Int := match idxP r c with | none => -1 | some i => (i : Int) + (k : Int)
theorem fidx_nil (c : Int) (k : Nat) : fidx [] c k = -1 := rfl
theorem fidx_hit {p : Int × List EvT} {r : List (Int × List EvT)} {c : Int} {k : Nat} (h : p.1 = c) : fidx (p :: r) c k = k := by
  unfold fidx idxP; rw [if_pos h]; simp
theorem fidx_next {p : Int × List EvT} {r : List (Int × List EvT)} {c : Int} {k : Nat} (h : p.1 ≠ c) : fidx (p :: r) c k = fidx r c (k + 1) := by
  unfold fidx
  simp only [idxP]
  rw [if_neg h]
  cases idxP r c with
  | none => rfl
  | some i => simp; omega
theorem flat_mid (l : List (Int × List EvT)) (m i : Nat) : (flat ((l.take m).drop i)).length ≤ (flat l).length := by
  have h1 := congrArg (fun x => (flat x).length) (List.take_append_drop m l)
  have h2 := congrArg (fun x => (flat x).length) (List.take_append_drop i (l.take m))
  simp only [flat_app, List.length_append] at h1 h2
  omega
def refC (A : Option Addr) (n c : Nat) (last : Int) : Array Value := #[.slice A n c, .int .i64 last]
set_option linter.unusedSimpArgs false in
set_option maxHeartbeats 0 in
theorem findRef_any (A : Option Addr) (n cc : Nat) (P : PT) (c : Int) (w : World) (h : PtR w.heap.size w A n (allPs P)) (hn : n ≤ 100000) :
    Calls Try.prog 16 #[.agg #[.slice A n cc, .int .i64 P.last], .int .i64 c] w fun en w' => en = .returned (.int .i64 (fidx P.r c 1)) ∧ Below w.heap.size w w' := by
  have H := Lib.hid h
  have HN := Lib.hid (show n = P.r.length + 1 from h.n)
  obtain ⟨q, hq⟩ : ∃ q, q = fidx P.r c 1 := ⟨_, rfl⟩
  rw [← hq]
  have HQ := Lib.hid (show q = fidx (P.r.drop 0) c 1 from hq)
  clear h hq
  go_enter Try.func16, Try.ntmps16
  go_upto_region 1 with fail
  obtain ⟨w1, hw1⟩ : ∃ w1, w1 = w.alloc (.cells #[.slice A n cc, .int .i64 P.last] 29) := ⟨_, rfl⟩
  have hb1 : Below w.heap.size w w1 := by rw [hw1]; exact (Below.refl _ _).alloc (Nat.le_refl _) _
  have hj1 : w1.heap[w.heap.size]? = some (.cells #[.slice A n cc, .int .i64 P.last] 29 (0, 0)) := by rw [hw1]; exact heap_alloc_new _ _
  rw [← hw1]
  obtain ⟨gj, hgj⟩ : ∃ g, g = w.heap.size := ⟨_, rfl⟩
  rw [← hgj] at hj1
  rw [← hgj]
  have HJb := Lib.hid hj1
  have HBw := Lib.hid hb1
  have hlj : gj < w1.heap.size := (Array.getElem?_eq_some_iff.1 hj1).1
  have HLj := Lib.hid hlj
  clear hw1 hgj hj1 hb1 hlj
  go_upto_region 2 with fail
  go_loopw [5] (fun i wr => ∃ k : Nat, i = .int .i64 (((k + 1 : Nat)) : Int) ∧ k + 1 ≤ n ∧ Hid (q = fidx (P.r.drop k) c (k + 1)) ∧ wr = w1) (fun i _ => n - (intOf i).toNat)
  case atStart => exact ⟨0, rfl, by have := HN.out; omega, HQ, rfl⟩
  case round =>
    clear HQ
    obtain ⟨k, rfl, hk, HQ, hwr⟩ := hrel
    subst hwr
    have hj := HJb.out
    have cj := cell_of_row wr gj 0 _ _ _ hj
    have cj : wr.cell? ⟨gj, 0, none⟩ = some (.slice A n cc) := cj
    obtain ⟨k1, hk1⟩ : ∃ k1, k1 = k + 1 := ⟨_, rfl⟩
    rw [← hk1] at hk HQ ⊢
    by_cases hlt : k1 < n
    · obtain ⟨p, hp⟩ : ∃ p, P.r[k]? = some p := ⟨_, List.getElem?_eq_getElem (by have := HN.out; omega)⟩
      obtain ⟨b, off, A', n', c', ea, hb, hc1, hc2, _, _⟩ := H.out.r k1 p (by rw [hk1]; exact hp)
      subst ea
      have hd : P.r.drop k = p :: P.r.drop (k + 1) := by
        have hkl := (List.getElem?_eq_some_iff.1 hp).1
        rw [List.drop_eq_getElem_cons hkl, (List.getElem?_eq_some_iff.1 hp).2]
      have hc3 := (HBw.out.cell (show (⟨b, off + k1 * 2, none⟩ : Addr).block < w.heap.size from hb)).trans hc1
      have g0 : (0 : Int) ≤ (k1 : Int) := by omega
      have g1 : (k1 : Int) < (n : Int) := by omega
      have g2 : (n : Int) ≤ 100000 := by omega
      have hQ := HQ.out
      rw [hd] at hQ
      have HK := Lib.hid hk1
      by_cases hpc : p.1 = c
      · have HF := Lib.hid (hQ.trans (fidx_hit hpc))
        have d0 : (p.1 == c) = true := by simp [hpc]
        have hbw := HBw.out
        clear hQ hd hp hpc hk1 hj hc1 hc2 HQ
        go_wp2_with fail
        go_ret
        exact ⟨by rw [HF.out]; rfl, hbw⟩
      · have HF := Lib.hid (show q = fidx (P.r.drop k1) c (k1 + 1) from by rw [hQ, fidx_next hpc, hk1])
        have d0 : (p.1 == c) = false := by simp [hpc]
        clear hQ hd hp hpc hk1 hj hc1 hc2 HQ
        go_wp2_with fail
        go_roundw
        case rel => exact ⟨k1, by go_num, by omega, HF, by trivial⟩
        case measure => simp [intOf]; omega
    · obtain rfl : k1 = n := by omega
      have hQ := HQ.out
      rw [List.drop_eq_nil_of_le (by have := HN.out; omega), fidx_nil] at hQ
      have HF := Lib.hid hQ
      have hbw := HBw.out
      clear hQ hk1 hj HQ
      go_wp2_with fail
      go_ret
      exact ⟨by rw [HF.out]; rfl, hbw⟩
set_option linter.unusedSimpArgs false in
set_option maxHeartbeats 0 in
theorem allRef_any (A : Option Addr) (n cc : Nat) (P : PT) (from_ : Nat) (w : World) (h : PtR w.heap.size w A n (allPs P)) (hn : n ≤ 100000) (hf : from_ ≤ n) (hev : (flat (allPs P)).length ≤ 200000) :
    Calls Try.prog 21 #[.agg #[.slice A n cc, .int .i64 P.last], .int .i64 (from_ : Int)] w fun en w' => ∃ A' m c', en = .returned (.slice A' m c') ∧ VB w A' m c' (flat ((allPs P).drop from_)) w' := by
  have H := Lib.hid h
  have HEv := Lib.hid hev
  clear h hev
  go_enter Try.func21, Try.ntmps21
  go_upto_region 1 with fail
  obtain ⟨w1, hw1⟩ : ∃ w1, w1 = w.alloc (.cells #[.slice A n cc, .int .i64 P.last] 29) := ⟨_, rfl⟩
  have hb1 : Below w.heap.size w w1 := by rw [hw1]; exact (Below.refl _ _).alloc (Nat.le_refl _) _
  have hj1 : w1.heap[w.heap.size]? = some (.cells #[.slice A n cc, .int .i64 P.last] 29 (0, 0)) := by rw [hw1]; exact heap_alloc_new _ _
  rw [← hw1]
  obtain ⟨gj, hgj⟩ : ∃ g, g = w.heap.size := ⟨_, rfl⟩
  rw [← hgj] at hj1
  rw [← hgj]
  have HJb := Lib.hid hj1
  have HBw := Lib.hid hb1
  have hlj : gj < w1.heap.size := (Array.getElem?_eq_some_iff.1 hj1).1
  have HLj := Lib.hid hlj
  clear hw1 hgj hj1 hb1 hlj
  have hb2 : Below w1.heap.size w1 (w1.alloc (.cells #[] 41)) := (Below.refl _ _).alloc (Nat.le_refl _) _
  have h0 := ownV_empty w1 w.heap.size HBw.out.size
  have HV0 := Lib.hid (show VB w (some ⟨w1.heap.size, 0, none⟩) 0 0 (flat (((allPs P).take from_).drop from_)) (w1.alloc (.cells #[] 41)) from by
    rw [List.drop_eq_nil_of_le (by rw [List.length_take]; omega)]
    exact ⟨h0, keepB hb2 HBw.out⟩)
  have hj2 : (w1.alloc (.cells #[] 41)).heap[gj]? = some (.cells #[.slice A n cc, .int .i64 P.last] 29 (0, 0)) := (hb2.block gj HLj.out).trans HJb.out
  have HJ2 := Lib.hid hj2
  have HFl := Lib.hid hf
  clear hb2 h0 hj2 hf
  go_upto_region 3 with fail
  have f1 : (n : Int) ≤ 100000 := by omega
  go_loopw [5, 6] (fun o i wr => ∃ (k m2 c2 : Nat) (A2 : Option Addr), i = .int .i64 ((k : Nat) : Int) ∧ o = .slice A2 m2 c2 ∧ from_ ≤ k ∧ k ≤ n ∧ Hid (VB w A2 m2 c2 (flat (((allPs P).take k).drop from_)) wr) ∧ Hid (wr.heap[gj]? = some (.cells #[.slice A n cc, .int .i64 P.last] 29 (0, 0)))) (fun _ i _ => n - (intOf i).toNat)
  case atStart => exact ⟨from_, 0, 0, _, rfl, rfl, by omega, HFl.out, HV0, HJ2⟩
  case round =>
    clear HV0 HJ2
    obtain ⟨k, m2, c2, A2, rfl, rfl, hfk, hk, HV, HJ⟩ := hrel
    have cj : wr.cell? ⟨gj, 0, none⟩ = some (.slice A n cc) := cell_of_row wr gj 0 _ _ _ HJ.out
    by_cases hlt : k < n
    · obtain ⟨p, hp⟩ : ∃ p, (allPs P)[k]? = some p := ⟨_, List.getElem?_eq_getElem (by rw [← H.out.n]; exact hlt)⟩
      obtain ⟨b, off, A', n', c', ea, hb, hc1, hc2, _, hE⟩ := H.out.r k p hp
      subst ea
      have hc3 := (HV.out.b.cell (show (⟨b, off + k * 2 + 1, none⟩ : Addr).block < w.heap.size from hb)).trans hc2
      have hseg : ((allPs P).take (k + 1)).drop from_ = ((allPs P).take k).drop from_ ++ [p] := by
        have hkl := (List.getElem?_eq_some_iff.1 hp).1
        rw [List.take_add_one, hp, List.drop_append_of_le_length (by rw [List.length_take]; omega)]
        rfl
      have HSeg := Lib.hid (show flat (((allPs P).take (k + 1)).drop from_) = flat (((allPs P).take k).drop from_) ++ p.2 from by rw [hseg, flat_app]; simp [flat])
      have hsum : m2 + n' ≤ 1000000 := by
        have h1 := HV.out.own.len
        have h2 := hE.n
        have h3 := flat_mid (allPs P) (k + 1) from_
        rw [HSeg.out, List.length_append] at h3
        have h4 := HEv.out
        omega
      have hEr := (hE.below HV.out.b).r
      have HEn := Lib.hid hE.n
      have g0 : (0 : Int) ≤ (k : Int) := by omega
      have g1 : (k : Int) < (n : Int) := by omega
      have hO := HV.out.own
      have hsz := HV.out.b.size
      clear hp hc1 hc2 hE hseg
      go_wp2_with (at_builtin; refine wpList_appV rfl (.tmp 16) (.tmp 22) rfl w.heap.size A2 m2 c2 _ rfl hO _ A' n' c' p.2 rfl hEr HEn.out hsum hsz ?_; intro A7 c7 w7 ho7 hg7)
      have HV7 := Lib.hid (show VB w A7 (m2 + n') c7 (flat (((allPs P).take (k + 1)).drop from_)) w7 from by rw [HSeg.out]; exact ⟨ho7, hO.grown HV.out.b hsz hg7⟩)
      have HJ7 := Lib.hid (show w7.heap[gj]? = some (.cells #[.slice (some ⟨b, off, none⟩) n cc, .int .i64 P.last] 29 (0, 0)) from by
        refine (hg7.block gj (Array.getElem?_eq_some_iff.1 HJ.out).1 (fun e => ?_)).trans HJ.out
        obtain ⟨_, cur, hc⟩ := own_ty hO.o e.symm
        exact absurd (ty_same hc HJ.out) (by decide))
      clear ho7 hg7 hO hEr
      go_roundw
      case rel => exact ⟨k + 1, _, _, _, by go_num, rfl, by omega, by omega, HV7, HJ7⟩
      case measure => simp [intOf]; omega
    · obtain rfl : k = n := by omega
      have HF := Lib.hid (show VB w A2 m2 c2 (flat ((allPs P).drop from_)) wr from by
        have h := HV.out
        rw [H.out.n, List.take_length] at h
        exact h)
      clear HV
      go_wp2_with fail
      go_ret
      exact ⟨_, _, _, rfl, HF.out⟩
theorem jn_info_int : (Try.prog.info? 3).map (fun i => (i.zero, i.size, i.bytes)) = some (some (.int .i64 0), 1, 8) := by kernel_rfl
/-- Numbers in the making. -/
structure IB (w : World) (A : Option Addr) (m c : Nat) (l : List Int) (W : World) : Prop where
  own : Own .i64 3 W w.heap.size A m c l
  b : Below w.heap.size w W
set_option linter.unusedSimpArgs false in
set_option maxHeartbeats 0 in
theorem marksRef_any (A : Option Addr) (n cc : Nat) (P : PT) (w : World) (h : PtR w.heap.size w A n (allPs P)) (hn : n ≤ 100000) :
    Calls Try.prog 42 #[.agg #[.slice A n cc, .int .i64 P.last]] w fun en w' => ∃ A' m c', en = .returned (.slice A' m c') ∧ IB w A' m c' (P.r.map Prod.fst) w' := by
  obtain ⟨i0, hi, hz0, hz1, hz2⟩ := info_parts jn_info_int
  have H := Lib.hid h
  have HN := Lib.hid (show n = P.r.length + 1 from h.n)
  clear h
  go_enter Try.func42, Try.ntmps42
  go_upto_region 1 with fail
  obtain ⟨w1, hw1⟩ : ∃ w1, w1 = w.alloc (.cells #[.slice A n cc, .int .i64 P.last] 29) := ⟨_, rfl⟩
  have hb1 : Below w.heap.size w w1 := by rw [hw1]; exact (Below.refl _ _).alloc (Nat.le_refl _) _
  have hj1 : w1.heap[w.heap.size]? = some (.cells #[.slice A n cc, .int .i64 P.last] 29 (0, 0)) := by rw [hw1]; exact heap_alloc_new _ _
  rw [← hw1]
  obtain ⟨gj, hgj⟩ : ∃ g, g = w.heap.size := ⟨_, rfl⟩
  rw [← hgj] at hj1
  rw [← hgj]
  have HJb := Lib.hid hj1
  have HBw := Lib.hid hb1
  have hlj : gj < w1.heap.size := (Array.getElem?_eq_some_iff.1 hj1).1
  have HLj := Lib.hid hlj
  clear hw1 hgj hj1 hb1 hlj
  have hb2 : Below w1.heap.size w1 (w1.alloc (.cells #[] 3)) := (Below.refl _ _).alloc (Nat.le_refl _) _
  have h0 := own_empty (k := .i64) (e := 3) w1 w.heap.size HBw.out.size
  have HV0 := Lib.hid (show IB w (some ⟨w1.heap.size, 0, none⟩) 0 0 ((P.r.take 0).map Prod.fst) (w1.alloc (.cells #[] 3)) from ⟨h0, keepB hb2 HBw.out⟩)
  have hj2 : (w1.alloc (.cells #[] 3)).heap[gj]? = some (.cells #[.slice A n cc, .int .i64 P.last] 29 (0, 0)) := (hb2.block gj HLj.out).trans HJb.out
  have HJ2 := Lib.hid hj2
  clear hb2 h0 hj2
  go_upto_region 3 with fail
  have f1 : (n : Int) ≤ 100000 := by omega
  go_loopw [3, 4] (fun o i wr => ∃ (k m2 c2 : Nat) (A2 : Option Addr), i = .int .i64 (((k + 1 : Nat)) : Int) ∧ o = .slice A2 m2 c2 ∧ k + 1 ≤ n ∧ m2 ≤ k ∧ Hid (IB w A2 m2 c2 ((P.r.take k).map Prod.fst) wr) ∧ Hid (wr.heap[gj]? = some (.cells #[.slice A n cc, .int .i64 P.last] 29 (0, 0)))) (fun _ i _ => n - (intOf i).toNat)
  case atStart => exact ⟨0, 0, 0, _, rfl, rfl, by have := HN.out; omega, by omega, HV0, HJ2⟩
  case round =>
    clear HV0 HJ2
    obtain ⟨k, m2, c2, A2, rfl, rfl, hk, hmk, HV, HJ⟩ := hrel
    have cj : wr.cell? ⟨gj, 0, none⟩ = some (.slice A n cc) := cell_of_row wr gj 0 _ _ _ HJ.out
    obtain ⟨k1, hk1⟩ : ∃ k1, k1 = k + 1 := ⟨_, rfl⟩
    rw [← hk1] at hk ⊢
    by_cases hlt : k1 < n
    · obtain ⟨p, hp⟩ : ∃ p, P.r[k]? = some p := ⟨_, List.getElem?_eq_getElem (by have := HN.out; omega)⟩
      obtain ⟨b, off, A', n', c', ea, hb, hc1, hc2, _, _⟩ := H.out.r k1 p (by rw [hk1]; exact hp)
      subst ea
      have hc3 := (HV.out.b.cell (show (⟨b, off + k1 * 2, none⟩ : Addr).block < w.heap.size from hb)).trans hc1
      have HSeg := Lib.hid (show (P.r.take k1).map Prod.fst = (P.r.take k).map Prod.fst ++ [p.1] from by rw [hk1, List.take_add_one, hp]; simp)
      obtain ⟨v, hv⟩ : ∃ v, v = p.1 := ⟨_, rfl⟩
      rw [← hv] at hc3 HSeg
      have g0 : (0 : Int) ≤ (k1 : Int) := by omega
      have g1 : (k1 : Int) < (n : Int) := by omega
      have hm1 : m2 + 1 ≤ 4294967296 := by omega
      have HK := Lib.hid hk1
      have hbA : Below wr.heap.size wr (wr.alloc (.cells #[.int .i64 v] 3)) := (Below.refl _ _).alloc (Nat.le_refl _) _
      have hO := HV.out.own.alloc (.cells #[.int .i64 v] 3)
      have HB2 := Lib.hid (keepB hbA HV.out.b)
      have hsz := HB2.out.size
      have hj3 : (wr.alloc (.cells #[.int .i64 v] 3)).heap[gj]? = some (.cells #[.slice (some ⟨b, off, none⟩) n cc, .int .i64 P.last] 29 (0, 0)) := (hbA.block gj (Array.getElem?_eq_some_iff.1 HJ.out).1).trans HJ.out
      have HJ3 := Lib.hid hj3
      clear hp hc1 hc2 hk1 hv hbA hj3
      go_wp2_with (at_builtin; refine wpList_app rfl (.tmp 13) (.tmp 20) _ rfl .i64 w.heap.size 3 i0 _ 8 Try.underlying57 hi hz0 hz1 hz2 rfl A2 m2 c2 _ rfl hO _ (some ⟨wr.heap.size, 0, none⟩) 1 1 [v] rfl (Nums.one _ _ _ _) hm1 (by omega) hsz ?_; intro A7 c7 w7 ho7 hg7)
      have HV7 := Lib.hid (show IB w A7 (m2 + 1) c7 ((P.r.take k1).map Prod.fst) w7 from by rw [HSeg.out]; exact ⟨ho7, hO.belowGrown HB2.out hsz hg7⟩)
      have HJ7 := Lib.hid (show w7.heap[gj]? = some (.cells #[.slice (some ⟨b, off, none⟩) n cc, .int .i64 P.last] 29 (0, 0)) from by
        refine (hg7.block gj (Array.getElem?_eq_some_iff.1 HJ3.out).1 (fun e => ?_)).trans HJ3.out
        obtain ⟨_, cur, hc⟩ := own_ty hO.2 e.symm
        exact absurd (ty_same hc HJ3.out) (by decide))
      clear ho7 hg7 hO
      go_roundw
      case rel => exact ⟨k1, _, _, _, by go_num, rfl, by omega, by have := HK.out; omega, HV7, HJ7⟩
      case measure => simp [intOf]; omega
    · obtain rfl : k1 = n := by omega
      have HF := Lib.hid (show IB w A2 m2 c2 (P.r.map Prod.fst) wr from by
        have h := HV.out
        rw [List.take_of_length_le (by have := HN.out; omega)] at h
        exact h)
      clear HV hk1
      go_wp2_with fail
      go_ret
      exact ⟨_, _, _, rfl, HF.out⟩
end Go.Proofs.Ytncmfkmgaghklaa
