/- Layer 15: the landed code's Gained. -/
import Derived.Test.YtmhabodijmnldaaKwC2
namespace Go.Proofs.Ytmhabodijmnldaa
open Go.RowKit Ex
set_option maxRecDepth 100000
theorem any_takeN {l : List EvT} {j : Nat} {e : EvT} (he : l[j]? = some e) (f : EvT → Bool) : (l.take (j + 1)).any f = ((l.take j).any f || f e) := by
  rw [List.take_add_one, he]; simp
theorem any_takeT {l : List EvT} {j : Nat} (f : EvT → Bool) (h : (l.take j).any f = true) : l.any f = true := by
  rw [List.any_eq_true] at h ⊢
  obtain ⟨x, hx, hf⟩ := h
  exact ⟨x, List.mem_of_mem_take hx, hf⟩
set_option maxHeartbeats 0 in
theorem gained_code (A : Option Addr) (n c : Nat) (l : List EvT) (w : World) (hE : Evs w.heap.size w A n l) (hm : n ≤ 1000) :
    Calls Try.prog 21 #[.slice A n c] w fun en w' => en = .returned (.bool (l.any gainsE)) ∧ Below w.heap.size w w' := by
  have HE := Lib.hid hE
  obtain ⟨r, hr⟩ : ∃ r, r = l.any gainsE := ⟨_, rfl⟩
  rw [← hr]
  have HR := Lib.hid hr
  clear hE hr
  have HB0 := Lib.hid (Below.refl w.heap.size w)
  have HG0 := Lib.hid (show (l.take 0).any gainsE = false from rfl)
  go_enter Try.func21, Try.ntmps21
  go_upto_region 2 with fail
  go_loopw [7] (fun i wr => ∃ k : Nat, i = .int .i64 ((k : Nat) : Int) ∧ k ≤ n ∧ Hid ((l.take k).any gainsE = false) ∧ Hid (Below w.heap.size w wr)) (fun i _ => n - (intOf i).toNat)
  case atStart => exact ⟨0, rfl, by omega, HG0, HB0⟩
  case round =>
    clear HB0 HG0
    obtain ⟨k, rfl, hk, HG, HB⟩ := hrel
    by_cases hlt : k < n
    · have hlt' : k < l.length := by rw [← HE.out.n]; exact hlt
      obtain ⟨b1, o1, ea, hb1, g1⟩ := HE.out.r.at_ hlt'
      subst ea
      have G1 := Lib.hid (range_below HB.out hb1 g1)
      obtain ⟨x, hx⟩ : ∃ x, x = l[k] := ⟨_, rfl⟩
      rw [← hx] at G1
      have HX := Lib.hid (show l[k]? = some x by rw [hx]; exact List.getElem?_eq_getElem hlt')
      have p0 : (0 : Int) ≤ (k : Int) := by omega
      have p1 : (k : Int) < (n : Int) := by omega
      have hm' : (k : Int) ≤ 1000 := by omega
      clear hx g1 hb1 hlt'
      have hsz := ev_size x
      have hone := evC_one x
      have hs6 : (evC ev0).size = (evC x).size := rfl
      have hz6 := ev0_is
      have hnew : (World.alloc wr (.cells (evC ev0) 44)).heap[(World.heap wr).size]? = some (.cells (evC ev0) 44 (0, 0)) := heap_alloc_new _ _
      obtain ⟨es, hes⟩ : ∃ es, es = evC x := ⟨_, rfl⟩
      have hev : evV x = .agg es := by rw [hes]; rfl
      have HEs := Lib.hid hes
      rw [← hes] at hsz hs6 hone
      clear hes
      go_upto_region 4 with (first
        | (refine load_evm rfl (.tmp 9) rfl b1 (o1 + k * 6) rfl x G1.out ?_; rw [hev])
        | (refine wpList_store_row rfl 44 (.tmp 4) (.tmp 10) rfl (World.heap wr).size _ rfl rfl 44 (evC ev0) hnew hsz hs6 hone ?_))
      rw [HEs.out]
      clear hnew hsz hs6 hone hz6 hev HEs es
      obtain ⟨w4, hw4, he4, hb4⟩ := ev_box wr x
      rw [← hw4]
      obtain ⟨ge, hge⟩ : ∃ g, g = (World.heap wr).size := ⟨_, rfl⟩
      rw [← hge] at he4
      rw [← hge]
      have HGge := Lib.hid hge
      clear hw4 hge
      have HB4 := Lib.hid (keepB hb4 HB.out)
      clear hb4
      obtain ⟨q, hq⟩ : ∃ q, q = gainsE x := ⟨_, rfl⟩
      have hg := gains_code x w4
      rw [← hq] at hg
      have HQ := Lib.hid (show (l.take (k + 1)).any gainsE = q from by rw [any_takeN HX.out, HG.out, Bool.false_or, hq])
      clear hq
      go_wp2_with (refine load_ev (by rfl) (.tmp 4) rfl ge rfl x he4 ?_)
      refine hg.mono ?_
      rintro en w5 ⟨rfl, hb5⟩
      have HB5 := Lib.hid (keepB hb5 HB4.out)
      clear hg hb5 he4
      cases q with
      | true =>
        obtain rfl : r = true := by rw [HR.out]; exact any_takeT _ HQ.out
        go_wp2_with fail
        go_ret
        exact ⟨rfl, HB5.out⟩
      | false =>
        go_wp2_with fail
        go_roundw
        case rel => exact ⟨k + 1, by go_num, by omega, HQ, HB5⟩
        case measure => simp [intOf]; omega
    · obtain rfl : k = n := by omega
      obtain rfl : r = false := by
        have h := HG.out
        rw [show l.take k = l from by rw [HE.out.n]; exact List.take_length] at h
        rw [HR.out, h]
      go_wp2_with fail
      go_ret
      exact ⟨rfl, HB.out⟩
end Go.Proofs.Ytmhabodijmnldaa
