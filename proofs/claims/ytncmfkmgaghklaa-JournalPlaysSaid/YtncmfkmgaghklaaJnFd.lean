/- Layer 14: the document's Fold. -/
import Derived.Test.YtncmfkmgaghklaaJnBk
import Derived.Test.YtncmfkmgaghklaaNtNetR
namespace Go.Proofs.Ytncmfkmgaghklaa
open Go.RowKit Ex
set_option maxRecDepth 100000
theorem OwnV.rowJ {W : World} {base n c g m k : Nat} {A A2 : Option Addr} {l : List EvT} {x : Int} (h : OwnV W base A n c l) (hg : JBox W g A2 m k x) (cs : Array Value) : OwnV (W.setRow g cs) base A n c l :=
  ⟨h.len, owns_keep h.o fun j hj => setRow_other W g j cs (fun e => by
    obtain ⟨_, cur, hc⟩ := own_ty h.o hj
    subst e
    exact absurd (ty_same hc hg) (by decide))⟩
theorem PtR.ev {B n : Nat} {w : World} {A : Option Addr} {ps : List (Int × List EvT)} (h : PtR B w A n ps) : ∀ p ∈ ps, ∀ e ∈ p.2, EvI e := fun p hp => by
  obtain ⟨i, hi⟩ := List.mem_iff_getElem?.1 hp
  obtain ⟨_, _, _, _, _, _, _, _, _, _, h6⟩ := h.r i p hi
  exact h6.i
theorem flat_i {ps : List (Int × List EvT)} (h : ∀ p ∈ ps, ∀ e ∈ p.2, EvI e) (k : Nat) : ∀ e ∈ flat (ps.drop k), EvI e := fun e he => by
  obtain ⟨p, hp, he⟩ := List.mem_flatMap.1 he
  exact h p (List.mem_of_mem_drop hp) e he
theorem flat_drop_len (ps : List (Int × List EvT)) (k : Nat) : (flat (ps.drop k)).length ≤ (flat ps).length := by
  have h := congrArg (fun x => (flat x).length) (List.take_append_drop k ps)
  simp only [flat_app, List.length_append] at h
  omega
set_option linter.unusedSimpArgs false in
set_option maxHeartbeats 0 in
theorem foldRef_any (A : Option Addr) (n cc : Nat) (P : PT) (l : List QT) (at_ : Nat) (qt : QT) (w : World) (h : PtR w.heap.size w A n (allPs P)) (hR : RdQ w.heap.size w A l) (hnl : n = l.length) (hqt : l[at_]? = some qt) (hc : n ≤ cc) (hn : n ≤ 1000) (hev : (flat (allPs P)).length ≤ 1000) :
    Calls Try.prog 23 #[.agg #[.slice A n cc, .int .i64 P.last], .int .i64 (at_ : Int)] w fun en w' => ∃ A' c' Al nl cl, en = .returned (.agg #[.slice A' (at_ + 1) c', .int .i64 P.last]) ∧
      OwnQ w' w.heap.size A' (at_ + 1) c' (l.take at_ ++ [⟨qt.num, ⟨Al, nl, cl⟩⟩]) ∧ nl ≤ cl ∧ OwnV w' w.heap.size Al nl cl (netL (flat ((allPs P).drop at_))) ∧ Below w.heap.size w w' := by
  have hi := (List.getElem?_eq_some_iff.1 hqt).1
  obtain ⟨b, off, rfl, hx1, hx2⟩ := hR at_ _ hqt
  clear hx1 hx2
  have H := Lib.hid h
  have HR := Lib.hid hR
  have HI := Lib.hid hi
  have HN := Lib.hid (show n = l.length ∧ n ≤ cc ∧ n ≤ 1000 ∧ (flat (allPs P)).length ≤ 1000 from ⟨hnl, hc, hn, hev⟩)
  obtain ⟨q, hq⟩ : ∃ q, q = qt.num := ⟨_, rfl⟩
  rw [← hq]
  have HQ := Lib.hid hq
  have HQt := Lib.hid hqt
  obtain ⟨x, hx⟩ : ∃ x, x = P.last := ⟨_, rfl⟩
  have HX := Lib.hid hx
  rw [← hx]
  clear h hR hnl hi hc hn hev hq hx hqt
  go_enter Try.func23, Try.ntmps23
  go_upto_region 1 with fail
  rename_i K0 hK0
  have hb0 : Below w.heap.size w (w.alloc (.cells #[.slice (some ⟨b, off, none⟩) n cc, .int .i64 x] 29)) := (Below.refl _ _).alloc (Nat.le_refl _) _
  have hb1 : Below (w.alloc (.cells #[.slice (some ⟨b, off, none⟩) n cc, .int .i64 x] 29)).heap.size (w.alloc (.cells #[.slice (some ⟨b, off, none⟩) n cc, .int .i64 x] 29)) ((w.alloc (.cells #[.slice (some ⟨b, off, none⟩) n cc, .int .i64 x] 29)).alloc (.cells #[.slice none 0 0, .int .i64 0] 29)) := (Below.refl _ _).alloc (Nat.le_refl _) _
  have hj1 : JBox ((w.alloc (.cells #[.slice (some ⟨b, off, none⟩) n cc, .int .i64 x] 29)).alloc (.cells #[.slice none 0 0, .int .i64 0] 29)) w.heap.size (some ⟨b, off, none⟩) n cc x := JBox.keep (heap_alloc_new _ _) hb1
  have hr1 : JBox ((w.alloc (.cells #[.slice (some ⟨b, off, none⟩) n cc, .int .i64 x] 29)).alloc (.cells #[.slice none 0 0, .int .i64 0] 29)) (w.heap.size + 1) none 0 0 0 := by
    have := heap_alloc_new (w.alloc (.cells #[.slice (some ⟨b, off, none⟩) n cc, .int .i64 x] 29)) (.cells #[.slice none 0 0, .int .i64 0] 29)
    rwa [World.size_alloc] at this
  have hbw := keepB hb1 hb0
  obtain ⟨w1, hw1⟩ : ∃ w1, w1 = (w.alloc (.cells #[.slice (some ⟨b, off, none⟩) n cc, .int .i64 x] 29)).alloc (.cells #[.slice none 0 0, .int .i64 0] 29) := ⟨_, rfl⟩
  rw [← hw1] at hj1 hr1 hbw
  rw [← hw1]
  obtain ⟨gj, hgj⟩ : ∃ g, g = w.heap.size := ⟨_, rfl⟩
  obtain ⟨gr, hgr⟩ : ∃ g, g = w.heap.size + 1 := ⟨_, rfl⟩
  rw [← hgr] at hr1
  rw [← hgj] at hj1
  rw [← hgj, show gj + 1 = gr by omega]
  have HG := Lib.hid (show gj = w.heap.size ∧ gr = w.heap.size + 1 from ⟨hgj, hgr⟩)
  clear hw1 hb0 hb1 hgj hgr
  have k0 : ∀ W, JBox W gj (some ⟨b, off, none⟩) n cc x → W.cell? ⟨gj, 0, none⟩ = some (.slice (some ⟨b, off, none⟩) n cc) := fun W h => cell_of_row W gj 0 _ _ _ h
  have k1 : ∀ W, JBox W gj (some ⟨b, off, none⟩) n cc x → W.cell? ⟨gj, 1, none⟩ = some (.int .i64 x) := fun W h => cell_of_row W gj 1 _ _ _ h
  refine wp_region_held_drew (S := fun W => JBox W gj (some ⟨b, off, none⟩) n cc x) (by kernel_rfl) (show JBox w1.drew gj _ n cc x from hj1) (fun hHeld => ?_)
  refine wpAnyH_take (i := 0) (v := ?_) rfl (by kernel_rfl) (by kernel_rfl) (by kernel_rfl) (fun _ _ _ h => h) (Or.inl ⟨by rfl, ?_⟩) hHeld ?_
  rotate_left
  · (intro w hSw; go_simp; (try with_reducible rfl))
  simp only [Act.put, List.getElem_toArray, List.getElem_cons_zero, List.getElem_cons_succ, List.setIfInBounds_toArray, List.set_cons_zero, List.set_cons_succ]
  refine wpAnyH_take (i := 1) (v := ?_) rfl (by kernel_rfl) (by kernel_rfl) (by kernel_rfl) (fun _ _ _ h => h) (Or.inl ⟨by rfl, ?_⟩) hHeld ?_
  rotate_left
  · (intro w hSw; go_simp; (try with_reducible rfl))
  simp only [Act.put, List.getElem_toArray, List.getElem_cons_zero, List.getElem_cons_succ, List.setIfInBounds_toArray, List.set_cons_zero, List.set_cons_succ]
  refine wpAnyH_take (i := 2) (v := ?_) rfl (by kernel_rfl) (by kernel_rfl) (by kernel_rfl) (fun _ _ _ h => h) (Or.inl ⟨by rfl, ?_⟩) hHeld ?_
  rotate_left
  · (intro w hSw; go_simp; (try with_reducible rfl))
  simp only [Act.put, List.getElem_toArray, List.getElem_cons_zero, List.getElem_cons_succ, List.setIfInBounds_toArray, List.set_cons_zero, List.set_cons_succ]
  refine wpAnyH_take (i := 3) (v := ?_) rfl (by kernel_rfl) (by kernel_rfl) (by kernel_rfl) (fun _ _ _ h => h) (Or.inl ⟨by rfl, ?_⟩) hHeld ?_
  rotate_left
  · (intro w hSw; go_simp; (try with_reducible rfl))
  simp only [Act.put, List.getElem_toArray, List.getElem_cons_zero, List.getElem_cons_succ, List.setIfInBounds_toArray, List.set_cons_zero, List.set_cons_succ]
  clear k0 k1
  have hB0 : Below w.heap.size w w1.drew := hbw.drew
  have hr0 : JBox w1.drew gr none 0 0 0 := hr1
  obtain ⟨w2, hw2⟩ : ∃ w2, w2 = w1.drew := ⟨_, rfl⟩
  rw [← hw2] at hHeld hB0 hr0
  rw [← hw2]
  clear hw2 hj1 hr1 hbw
  have hal := allRef_any (some ⟨b, off, none⟩) n cc P at_ w2 (H.out.grow hB0) (by have := HN.out; omega) (by have := HN.out; have := HI.out; omega) (by have := HN.out; omega)
  rw [← HX.out] at hal
  refine wpAnyH_ready (rs := [4]) (by kernel_rfl) (by simp) ?_
  refine AllReadyH.cons rfl (fun K hK => ?_) AllReadyH.nil
  try simp only [List.getElem_toArray, List.getElem_cons_zero, List.getElem_cons_succ]
  go_simp
  refine hal.mono ?_
  clear hal
  rintro en w3 ⟨A3, m3, c3, rfl, hV3⟩
  have hj3 := JBox.keep hHeld hV3.b
  have hr3 := JBox.keep hr0 hV3.b
  have hB3 := keepB hV3.b hB0
  have hm3 : m3 ≤ 1000 := by
    have h1 := hV3.own.len
    have h2 := flat_drop_len (allPs P) at_
    have h3 := HN.out
    omega
  have hE3 := hV3.own.evs (flat_i H.out.ev at_)
  have hc3 := hV3.own.cap.1
  go_wp2_with fail
  refine hK.out _ _ hj3 (fun _ => ?_)
  clear hK K
  try simp only [Act.put, List.setIfInBounds_toArray, List.set_cons_zero, List.set_cons_succ]
  have hne := netRef_any A3 m3 c3 _ w3 hE3 hc3 hm3
  clear hHeld hV3 hE3
  have hHeld := hj3
  refine wpAnyH_ready (rs := [5]) (by kernel_rfl) (by simp) ?_
  refine AllReadyH.cons rfl (fun K hK => ?_) AllReadyH.nil
  try simp only [List.getElem_toArray, List.getElem_cons_zero, List.getElem_cons_succ]
  go_simp
  refine hne.mono ?_
  clear hne
  rintro en w4 ⟨A4, m4, c4, rfl, hV4⟩
  have hj4 := JBox.keep hj3 hV4.b
  have hr4 := JBox.keep hr3 hV4.b
  have hB4 := keepB hV4.b hB3
  have hO4 := hV4.own
  have hs3 := hB3.size
  go_wp2_with fail
  refine hK.out _ _ hj4 (fun _ => ?_)
  clear hK K
  try simp only [Act.put, List.setIfInBounds_toArray, List.set_cons_zero, List.set_cons_succ]
  have hba := backRef_any (some ⟨b, off, none⟩) n cc x l at_ qt A4 m4 c4 w4 ((RdQ.below HR.out hB4).more_ hB4.size) HN.out.1 HQt.out HN.out.2.1 (by have := HN.out; omega)
  rw [← HQ.out] at hba
  clear hHeld hV4
  have hHeld := hj4
  refine wpAnyH_ready (rs := [6]) (by kernel_rfl) (by simp) ?_
  refine AllReadyH.cons rfl (fun K hK => ?_) AllReadyH.nil
  try simp only [List.getElem_toArray, List.getElem_cons_zero, List.getElem_cons_succ]
  go_simp
  refine hba.mono ?_
  clear hba
  rintro en w5 ⟨A5, c5, rfl, hO5, hb5⟩
  have hj5 := JBox.keep hj4 hb5
  have hr5 := JBox.keep hr4 hb5
  have hB5 := keepB hb5 hB4
  have hV5 := hO4.below hb5
  have hs4 := hB4.size
  go_wp2_with fail
  refine hK.out _ _ hj5 (fun _ => ?_)
  clear hK K
  try simp only [Act.put, List.setIfInBounds_toArray, List.set_cons_zero, List.set_cons_succ]
  clear hHeld
  have hHeld := hj5
  refine wpAnyH_ready (rs := [7]) (by kernel_rfl) (by simp) ?_
  refine AllReadyH.cons rfl (fun K hK => ?_) AllReadyH.nil
  try simp only [List.getElem_toArray, List.getElem_cons_zero, List.getElem_cons_succ]
  have hsz := jsize A5 (at_ + 1) c5 x
  have hone := jone A5 (at_ + 1) c5 x
  refine wp_store_row 29 (.tmp 4) (.tmp 11) rfl gr _ rfl rfl 29 _ hr5 hsz rfl hone ?_
  have hjE : JBox (w5.setRow gr #[.slice A5 (at_ + 1) c5, .int .i64 x]) gj (some ⟨b, off, none⟩) n cc x := (setRow_other w5 gr gj _ (by have := HG.out; omega)).trans hj5
  refine hK.out _ _ hjE (fun _ => ?_)
  clear hK K
  try simp only [Act.put, List.setIfInBounds_toArray, List.set_cons_zero, List.set_cons_succ]
  refine wpAnyH_done (by kernel_rfl) ?_ _
  refine hK0 _ _ ?_
  clear hK0 K0 hHeld
  have hwr : w.heap.size ≤ gr := by have := HG.out; omega
  have HF := Lib.hid (show OwnQ (w5.setRow gr #[.slice A5 (at_ + 1) c5, .int .i64 x]) w.heap.size A5 (at_ + 1) c5 (l.take at_ ++ [⟨q, ⟨A4, m4, c4⟩⟩]) ∧ m4 ≤ c4 ∧ OwnV (w5.setRow gr #[.slice A5 (at_ + 1) c5, .int .i64 x]) w.heap.size A4 m4 c4 (netL (flat ((allPs P).drop at_))) ∧ Below w.heap.size w (w5.setRow gr #[.slice A5 (at_ + 1) c5, .int .i64 x]) from
    ⟨(hO5.row hr5 _).low hs4, hO4.cap.1, (hV5.rowJ hr5 _).low hs3, below_setRow hB5 gr _ hwr⟩)
  go_wp2_with fail
  refine bodyPost_ret (v := .agg #[.slice A5 (at_ + 1) c5, .int .i64 x]) ?_ rfl ⟨A5, c5, A4, m4, c4, rfl, HF.out.1, HF.out.2.1, HF.out.2.2.1, HF.out.2.2.2⟩
  exact results_cellE (ty := 29) (p := 4) (by kernel_rfl) _ _ gr 29 _ (0, 0) _ rfl (setRow_heap _ _ _ _ _ _ hr5) Try.underlying29 rfl hsz
end Go.Proofs.Ytncmfkmgaghklaa
