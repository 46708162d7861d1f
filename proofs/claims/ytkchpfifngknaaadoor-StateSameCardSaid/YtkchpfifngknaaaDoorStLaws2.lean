/- Layer 10: the law StateSame. -/
import Derived.Test.YtkchpfifngknaaaDoorStLaws1
import Derived.Test.YtkchpfifngknaaaDoorStC9
import Derived.Test.YtkchpfifngknaaaDoorStRef7
import Derived.Test.YtkchpfifngknaaaDoorStRef6
namespace Go.Proofs.YtkchpfifngknaaaDoor
open Go.RowKit Ex
attribute [local go_sem] arr_get
set_option maxRecDepth 100000
theorem box_new (w : World) (cs : Array Value) : ∃ W, W = (w.alloc (.cells st0 29)).setRow w.heap.size cs ∧ StAt W w.heap.size cs ∧ Below w.heap.size w W :=
  ⟨_, rfl, setRow_heap _ _ _ _ _ _ (heap_alloc_new _ _), below_setRow ((Below.refl _ _).alloc (Nat.le_refl _) _) _ _ (Nat.le_refl _)⟩
/-- A cell that holds some number, and may be written. -/
def IntC (W : World) (b i : Nat) : Prop := (∃ x, W.cell? ⟨b, i, none⟩ = some (.int .i64 x)) ∧ W.frozen? ⟨b, i, none⟩ = false
theorem IntC.set_ {W : World} {b i : Nat} (h : IntC W b i) (c j : Nat) (v : Int) : IntC (W.setCell ⟨c, j, none⟩ (.int .i64 v)) b i := by
  obtain ⟨⟨x, hx⟩, hf⟩ := h
  refine ⟨?_, by rw [World.frozen?_setCell]; exact hf⟩
  by_cases e : (⟨c, j, none⟩ : Addr) = ⟨b, i, none⟩
  · rw [e]; exact ⟨v, World.cell?_setCell_same (h := hx) ..⟩
  · exact ⟨x, by rw [World.cell?_setCell_other (h := e)]; exact hx⟩
/-- The copy is written into: its box stands, its places hold numbers. -/
structure SpS (base : Nat) (w0 : World) (g : Nat) (cs : Array Value) (O : SlT) (L : Nat → SlT) (W : World) : Prop where
  b : Below base w0 W
  a : StAt W g cs
  o : ∀ i < O.n * 18, ∃ b off, O.A = some ⟨b, off, none⟩ ∧ base ≤ b ∧ b < g ∧ IntC W b (off + i)
  l : ∀ z < 11, ∀ i < (L z).n, ∃ b off, (L z).A = some ⟨b, off, none⟩ ∧ base ≤ b ∧ b < g ∧ IntC W b (off + i)
section
variable {base g : Nat} {w0 W W' : World} {cs : Array Value} {O : SlT} {L : Nat → SlT}
theorem SpS.drew (h : SpS base w0 g cs O L W) : SpS base w0 g cs O L W.drew := ⟨h.b.drew, h.a, h.o, h.l⟩
theorem SpS.set_ (h : SpS base w0 g cs O L W) {b : Nat} (h1 : base ≤ b) (h2 : b < g) (i : Nat) (v : Int) : SpS base w0 g cs O L (W.setCell ⟨b, i, none⟩ (.int .i64 v)) := by
  refine ⟨h.b.setCell (by simpa using h1) _, (heap_setCell_other W ⟨b, i, none⟩ g _ (by simp; omega)).trans h.a, fun j hj => ?_, fun z hz j hj => ?_⟩
  · obtain ⟨c, off, e, h3, h4, h5⟩ := h.o j hj
    exact ⟨c, off, e, h3, h4, h5.set_ b i v⟩
  · obtain ⟨c, off, e, h3, h4, h5⟩ := h.l z hz j hj
    exact ⟨c, off, e, h3, h4, h5.set_ b i v⟩
end
theorem SpS.keep {base g : Nat} {w0 W W' : World} {cs : Array Value} {O : SlT} {L : Nat → SlT} (h : SpS base w0 g cs O L W) (hW : base ≤ W.heap.size) (hb : Below W.heap.size W W') : SpS base w0 g cs O L W' := by
  have hg := h.a.lt
  have hc : ∀ b i, b < g → IntC W b i → IntC W' b i := fun b i hbg ⟨⟨x, hx⟩, hf⟩ => ⟨⟨x, (hb.cell (by simp; omega)).trans hx⟩, (hb.frozen (by simp; omega)).trans hf⟩
  refine ⟨h.b.trans (hb.mono hW), h.a.keep hb, fun j hj => ?_, fun z hz j hj => ?_⟩
  · obtain ⟨c, off, e, h3, h4, h5⟩ := h.o j hj
    exact ⟨c, off, e, h3, h4, hc _ _ h4 h5⟩
  · obtain ⟨c, off, e, h3, h4, h5⟩ := h.l z hz j hj
    exact ⟨c, off, e, h3, h4, hc _ _ h4 h5⟩
theorem intC_of {W : World} {b off i : Nat} {x : Int} {cs : Array Value} {t : TypeId} (hg : W.heap[b]? = some (.cells cs t (0, 0))) (hc : W.cell? ⟨b, off + i, none⟩ = some (.int .i64 x)) : IntC W b (off + i) := ⟨⟨x, hc⟩, frozen_of_row W b _ _ _ hg⟩
/-- A copy, in its box, may be written into. -/
theorem SpS.start {w W : World} {s : StT} {cs : Array Value} {O : SlT} {L : Nat → SlT} (hR : ReadsS W.heap.size W cs s O L) (hO : MineA W w.heap.size O.A) (hL : ∀ z < 11, MineA W w.heap.size (L z).A) (hb : Below w.heap.size w W) {W' : World} (hbW : Below W.heap.size W W') (ha : StAt W' W.heap.size cs) :
    SpS w.heap.size w W.heap.size cs O L W' := by
  refine ⟨keepB hbW hb, ha, fun i hi => ?_, fun z hz i hi => ?_⟩
  · have hq : i / 18 < s.objs.length := by have := hR.on; omega
    obtain ⟨b, off, e, h1, hra⟩ := hR.o (i / 18) _ (List.getElem?_eq_getElem hq)
    obtain ⟨g, o2, cs2, t, e2, h3, h4⟩ := hO _ e
    injection e2 with e3 e4
    subst e3
    refine ⟨b, off, e, h3, h1, intC_of (x := s.objs[i / 18] (i % 18)) ((hbW.block b h1).trans h4) ?_⟩
    have := hra (i % 18) (.int .i64 (s.objs[i / 18] (i % 18))) (by rw [Array.getElem?_toList]; exact arr_get .i64 18 _ (by omega))
    rw [show off + i = off + i / 18 * 18 + i % 18 by omega]
    exact (hbW.cell (by simpa using h1)).trans this
  · have hN := hR.l z hz
    have hlt : i < (s.lists z).length := by rw [hN.len]; exact hi
    obtain ⟨a, e, h1, hc⟩ := hN.at_ hlt
    obtain ⟨g, o2, cs2, t, e2, h3, h4⟩ := hL z hz _ e
    subst e2
    rw [Addr.add_mid] at hc
    simp only at h1
    exact ⟨g, o2, e, h3, h1, intC_of ((hbW.block g h1).trans h4) ((hbW.cell (by simpa using h1)).trans hc)⟩
set_option linter.unusedSimpArgs false in
set_option maxHeartbeats 0 in
theorem stateSame_walk {w : World} (T : TabF w) (a b : StT) (Oa Ob : SlT) (La Lb : Nat → SlT) (ca cb : Array Value) (hA : ReadsS w.heap.size w ca a Oa La) (hB : ReadsS w.heap.size w cb b Ob Lb) :
    Calls Tryd.prog 4 #[.agg ca, .agg cb] w fun e w' => e = .returned (.bool true) ∧ Below w.heap.size w w' := by
  have hca := hA.size
  have hcb := hB.size
  have HA := Lib.hid hA
  have HB := Lib.hid hB
  clear hA hB
  go_enter Tryd.func4, Tryd.ntmps4
  go_upto_region 1 with fail
  have HT := Lib.hid (show TwoS w w.heap.size (w.heap.size + 1) ca cb ((w.alloc (.cells ca 29)).alloc (.cells cb 29)) from by
    have h1 : Below (w.alloc (.cells ca 29)).heap.size (w.alloc (.cells ca 29)) ((w.alloc (.cells ca 29)).alloc (.cells cb 29)) := (Below.refl _ _).alloc (Nat.le_refl _) _
    have h0 : Below w.heap.size w (w.alloc (.cells ca 29)) := (Below.refl _ _).alloc (Nat.le_refl _) _
    refine ⟨keepB h1 h0, (StAt.new w ca).keep h1, ?_⟩
    have h := StAt.new (w.alloc (.cells ca 29)) cb
    simpa using h)
  obtain ⟨w1, hw1⟩ : ∃ w1, w1 = (w.alloc (.cells ca 29)).alloc (.cells cb 29) := ⟨_, rfl⟩
  obtain ⟨gb, hgb⟩ : ∃ gb, gb = w.heap.size + 1 := ⟨_, rfl⟩
  rw [← hw1, ← hgb] at HT
  rw [← hw1, ← hgb]
  clear hw1 hgb
  go_wp2_with fail
  refine (stAlive T w1 HT.out.b).mono ?_
  rintro e w2 ⟨rfl, hb2⟩
  have HT2 := Lib.hid (HT.out.keep hb2)
  have hsa := HT2.out.sa
  clear HT hb2
  go_wp2_with (refine load_wantS (by rfl) (.tmp 2) rfl w.heap.size rfl ca hsa hca ?_)
  have hl := long_any a _ La ca 200 w2 w2.heap.size (HA.out.grow HT2.out.b) (by omega)
  rw [show ((200 : Nat) : Int) = 200 from rfl] at hl
  refine hl.mono ?_
  clear hl hsa
  rintro e w3 ⟨rfl, hb3⟩
  have HT3 := Lib.hid (HT2.out.keep hb3)
  clear HT2 hb3
  by_cases hlg : longS a 200 = true
  · have hbw := HT3.out.b
    rw [hlg]
    go_wp2_with fail
    go_ret
    exact ⟨rfl, hbw⟩
  replace hlg : longS a 200 = false := by simpa using hlg
  obtain ⟨hna, hla⟩ := long_not (most := 200) hlg
  rw [hlg]
  clear hlg
  have hsb := HT3.out.sb
  go_wp2_with (refine load_wantS (by rfl) (.tmp 3) rfl gb rfl cb hsb hcb ?_)
  have hl := long_any b _ Lb cb 200 w3 w3.heap.size (HB.out.grow HT3.out.b) (by omega)
  rw [show ((200 : Nat) : Int) = 200 from rfl] at hl
  refine hl.mono ?_
  clear hl hsb
  rintro e w4 ⟨rfl, hb4⟩
  have HT4 := Lib.hid (HT3.out.keep hb4)
  clear HT3 hb4
  by_cases hlg : longS b 200 = true
  · have hbw := HT4.out.b
    rw [hlg]
    go_wp2_with fail
    go_ret
    exact ⟨rfl, hbw⟩
  replace hlg : longS b 200 = false := by simpa using hlg
  obtain ⟨hnb, hlb⟩ := long_not (most := 200) hlg
  rw [hlg]
  clear hlg
  have hna6 : a.objs.length ≤ 1000000 := by omega
  have hla6 : ∀ z < 11, (a.lists z).length ≤ 1000000 := fun z hz => by have := hla z hz; omega
  have hnb6 : b.objs.length ≤ 1000000 := by omega
  have hlb6 : ∀ z < 11, (b.lists z).length ≤ 1000000 := fun z hz => by have := hlb z hz; omega
  have HLa := Lib.hid hla
  clear hla hlb
  have hsa := HT4.out.sa
  go_wp2_with (refine load_wantS (by rfl) (.tmp 2) rfl w.heap.size rfl ca hsa hca ?_)
  refine (numCopy_any a _ La ca w4 (HA.out.grow HT4.out.b) hna6 hla6).mono ?_
  rintro e w5 ⟨cw, rfl, Ow, Lw, hRw, _, _, hb5⟩
  have HT5 := Lib.hid (HT4.out.keep hb5)
  clear HT4 hb5 hsa
  have hnew : (w5.alloc (.cells st0 29)).heap[w5.heap.size]? = some (.cells st0 29 (0, 0)) := heap_alloc_new _ _
  have hsz : (Tryd.prog.info? 29).map (·.size) = some cw.size := by rw [hRw.size]; exact size37
  have hs0 : st0.size = cw.size := by rw [hRw.size, show st0.size = 37 from stC_size _ _ _ _]
  have hone := hRw.one
  have hz := st0_is
  go_upto_region 6 with (refine wpList_store_row rfl 29 (.tmp 5) (.tmp 19) rfl w5.heap.size _ rfl rfl 29 st0 hnew hsz hs0 hone ?_)
  clear hnew hsz hs0 hone hz
  obtain ⟨w6, hw6, hg5, hb6⟩ := box_new w5 cw
  rw [← hw6]
  have HT6 := Lib.hid (HT5.out.keep hb6)
  have hR5 := hRw.grow hb6
  have HR56 := Lib.hid hR5
  obtain ⟨g5, hg⟩ : ∃ g5, g5 = w5.heap.size := ⟨_, rfl⟩
  rw [← hg] at hg5
  rw [← hg]
  have hl5 := hg5.lt
  have HS56 := Lib.hid hg5
  clear hw6 HT5 hb6 hg hRw
  have hsa := HT6.out.sa
  go_wp2_with (refine load_wantS (by rfl) (.tmp 2) rfl w.heap.size rfl ca hsa hca ?_)
  refine (copy_code a _ La ca w6 (HA.out.grow HT6.out.b) hna6 hla6).mono ?_
  rintro e w7 ⟨cc, rfl, Oc, Lc, hRc, hOc, hLc, hb7⟩
  have hg5 := hg5.keep hb7
  have HT7 := Lib.hid (HT6.out.keep hb7)
  have hR5 := hR5.grow hb7
  clear hsa
  have hnew : (w7.alloc (.cells st0 29)).heap[w7.heap.size]? = some (.cells st0 29 (0, 0)) := heap_alloc_new _ _
  have hsz : (Tryd.prog.info? 29).map (·.size) = some cc.size := by rw [hRc.size]; exact size37
  have hs0 : st0.size = cc.size := by rw [hRc.size, show st0.size = 37 from stC_size _ _ _ _]
  have hone := hRc.one
  have hz := st0_is
  go_upto_region 7 with (refine wpList_store_row rfl 29 (.tmp 6) (.tmp 21) rfl w7.heap.size _ rfl rfl 29 st0 hnew hsz hs0 hone ?_)
  clear hnew hsz hs0 hone hz
  obtain ⟨w8, hw8, hg6, hb8⟩ := box_new w7 cc
  rw [← hw8]
  have HT8 := Lib.hid (HT7.out.keep hb8)
  have HR5 := Lib.hid (hR5.grow hb8)
  have hg5 := hg5.keep hb8
  have HR6 := Lib.hid (hRc.grow hb8)
  have HSp := Lib.hid (SpS.start hRc hOc hLc hb7 hb8 hg6)
  have HG := Lib.hid (show g5 < w6.heap.size ∧ w.heap.size < w6.heap.size ∧ gb < w6.heap.size ∧ w6.heap.size ≤ w8.heap.size from ⟨hl5, HT6.out.sa.lt, HT6.out.sb.lt, by have := hb7.size; have := hb8.size; omega⟩)
  obtain ⟨g6, hg⟩ : ∃ g6, g6 = w7.heap.size := ⟨_, rfl⟩
  rw [← hg] at hg6 HSp
  rw [← hg]
  have hbw8 := HT8.out.b
  clear hw8 hg HT7 hb7 hOc hLc hRc hl5
  obtain ⟨u, hu⟩ : ∃ u, u = sameS a b := ⟨_, rfl⟩
  have uu : (u != u) = false := by simp
  have K1 := Lib.hid (fun W (hW : Below w8.heap.size w8 W) => same_code a a _ _ La Lc ca cc W (HA.out.grow (keepB hW hbw8)) (HR6.out.grow hW) hna6 hna6 hla6 hla6)
  have K2 := Lib.hid (fun W (hW : Below w8.heap.size w8 W) => same_code a b _ _ La Lb ca cb W (HA.out.grow (keepB hW hbw8)) (HB.out.grow (keepB hW hbw8)) hna6 hnb6 hla6 hlb6)
  have K3 := Lib.hid (fun W (hW : Below w8.heap.size w8 W) => states_any a b _ _ La Lb ca cb W (HA.out.grow (keepB hW hbw8)) (HB.out.grow (keepB hW hbw8)) hna6 hnb6 hla6 hlb6)
  have K5 := Lib.hid (fun W => states_any sT0 sT0 _ _ _ _ st0 st0 W (reads_0 _ W) (reads_0 _ W) (by simp [sT0]) (by simp [sT0]) (fun z _ => by simp [sT0]) (fun z _ => by simp [sT0]))
  rw [sameS_refl] at K1 K5
  rw [← hu] at K2 K3
  clear hu
  have hs2 := HT8.out.sa
  have hs3 := HT8.out.sb
  have hcc := HR6.out.size
  have HS2 := Lib.hid hs2
  have HS3 := Lib.hid hs3
  have HS6 := Lib.hid hg6
  have HS5 := Lib.hid hg5
  clear hs2 hs3 hg6 hg5
  go_upto_region 7 with fail
  refine region_below (by kernel_rfl) (fun hHeld => ?_)
  refine wpAnyH_take (i := 0) (v := .agg ca) rfl (by kernel_rfl) (by kernel_rfl) (by kernel_rfl) (fun _ _ _ h => h) (yields_st (by rfl) (.tmp 2) rfl w.heap.size rfl ca hca (fun W hW => (HS2.out).keep hW)) hHeld ?_
  simp only [Act.put, List.getElem_toArray, List.getElem_cons_zero, List.getElem_cons_succ, List.setIfInBounds_toArray, List.set_cons_zero, List.set_cons_succ]
  refine wpAnyH_take (i := 1) (v := .agg cc) rfl (by kernel_rfl) (by kernel_rfl) (by kernel_rfl) (fun _ _ _ h => h) (yields_st (by rfl) (.tmp 6) rfl g6 rfl cc hcc (fun W hW => (HS6.out).keep hW)) hHeld ?_
  simp only [Act.put, List.getElem_toArray, List.getElem_cons_zero, List.getElem_cons_succ, List.setIfInBounds_toArray, List.set_cons_zero, List.set_cons_succ]
  refine wpAnyH_ready (rs := [2]) (by kernel_rfl) (by simp) ?_
  refine AllReadyH.cons rfl (fun K hK => ?_) AllReadyH.nil
  simp only [List.getElem_toArray, List.getElem_cons_zero, List.getElem_cons_succ]
  go_simp
  refine (K1.out _ hHeld).mono ?_
  rintro e w9 ⟨rfl, hb9⟩
  go_wp2_with fail
  have hB9 := keepB hb9 hHeld
  refine hK.out _ _ hB9 (fun _ => ?_)
  clear hK K
  try simp only [Act.put, List.setIfInBounds_toArray, List.set_cons_zero, List.set_cons_succ]
  refine anyH_rebase hB9 (fun hHeld => ?_)
  refine wpAnyH_take (i := 3) (v := ?_) rfl (by kernel_rfl) (by kernel_rfl) (by kernel_rfl) (fun _ _ _ h => h) (Or.inl ⟨by rfl, ?_⟩) hHeld ?_
  rotate_left
  · (intro w hSw; go_simp; (try with_reducible rfl))
  simp only [Act.put, List.getElem_toArray, List.getElem_cons_zero, List.getElem_cons_succ, List.setIfInBounds_toArray, List.set_cons_zero, List.set_cons_succ]
  refine wpAnyH_take (i := 4) (v := ?_) rfl (by kernel_rfl) (by kernel_rfl) (by kernel_rfl) (fun _ _ _ h => h) (Or.inl ⟨by rfl, ?_⟩) hHeld ?_
  rotate_left
  · (intro w hSw; go_simp; (try with_reducible rfl))
  simp only [Act.put, List.getElem_toArray, List.getElem_cons_zero, List.getElem_cons_succ, List.setIfInBounds_toArray, List.set_cons_zero, List.set_cons_succ]
  have HS29 := Lib.hid (HS2.out.keep hB9)
  have HS39 := Lib.hid (HS3.out.keep hB9)
  refine wpAnyH_take (i := 5) (v := .agg ca) rfl (by kernel_rfl) (by kernel_rfl) (by kernel_rfl) (fun _ _ _ h => h) (yields_st (by rfl) (.tmp 2) rfl w.heap.size rfl ca hca (fun W hW => (HS29.out).keep hW)) hHeld ?_
  simp only [Act.put, List.getElem_toArray, List.getElem_cons_zero, List.getElem_cons_succ, List.setIfInBounds_toArray, List.set_cons_zero, List.set_cons_succ]
  refine wpAnyH_take (i := 6) (v := .agg cb) rfl (by kernel_rfl) (by kernel_rfl) (by kernel_rfl) (fun _ _ _ h => h) (yields_st (by rfl) (.tmp 3) rfl gb rfl cb hcb (fun W hW => (HS39.out).keep hW)) hHeld ?_
  simp only [Act.put, List.getElem_toArray, List.getElem_cons_zero, List.getElem_cons_succ, List.setIfInBounds_toArray, List.set_cons_zero, List.set_cons_succ]
  refine wpAnyH_take (i := 8) (v := .agg ca) rfl (by kernel_rfl) (by kernel_rfl) (by kernel_rfl) (fun _ _ _ h => h) (yields_st (by rfl) (.tmp 2) rfl w.heap.size rfl ca hca (fun W hW => (HS29.out).keep hW)) hHeld ?_
  simp only [Act.put, List.getElem_toArray, List.getElem_cons_zero, List.getElem_cons_succ, List.setIfInBounds_toArray, List.set_cons_zero, List.set_cons_succ]
  refine wpAnyH_take (i := 9) (v := .agg cb) rfl (by kernel_rfl) (by kernel_rfl) (by kernel_rfl) (fun _ _ _ h => h) (yields_st (by rfl) (.tmp 3) rfl gb rfl cb hcb (fun W hW => (HS39.out).keep hW)) hHeld ?_
  simp only [Act.put, List.getElem_toArray, List.getElem_cons_zero, List.getElem_cons_succ, List.setIfInBounds_toArray, List.set_cons_zero, List.set_cons_succ]
  refine wpAnyH_ready (rs := [7]) (by kernel_rfl) (by simp) ?_
  refine AllReadyH.cons rfl (fun K hK => ?_) AllReadyH.nil
  simp only [List.getElem_toArray, List.getElem_cons_zero, List.getElem_cons_succ]
  go_simp
  refine (K2.out _ (keepB hHeld hB9)).mono ?_
  rintro e w10 ⟨rfl, hb10⟩
  go_wp2_with fail
  have hB10 := keepB hb10 hHeld
  refine hK.out _ _ hB10 (fun _ => ?_)
  clear hK K
  try simp only [Act.put, List.setIfInBounds_toArray, List.set_cons_zero, List.set_cons_succ]
  refine anyH_rebase hB10 (fun hHeld => ?_)
  have hB810 := keepB hB10 hB9
  refine wpAnyH_ready (rs := [10]) (by kernel_rfl) (by simp) ?_
  refine AllReadyH.cons rfl (fun K hK => ?_) AllReadyH.nil
  simp only [List.getElem_toArray, List.getElem_cons_zero, List.getElem_cons_succ]
  go_simp
  refine (K3.out _ (keepB hHeld hB810)).mono ?_
  rintro e w11 ⟨rfl, hb11⟩
  go_wp2_with fail
  have hB11 := keepB hb11 hHeld
  refine hK.out _ _ hB11 (fun _ => ?_)
  clear hK K
  try simp only [Act.put, List.setIfInBounds_toArray, List.set_cons_zero, List.set_cons_succ]
  refine anyH_rebase hB11 (fun hHeld => ?_)
  have hB811 := keepB hB11 hB810
  refine wpAnyH_take (i := 11) (v := ?_) rfl (by kernel_rfl) (by kernel_rfl) (by kernel_rfl) (fun _ _ _ h => h) (Or.inl ⟨by rfl, ?_⟩) hHeld ?_
  rotate_left
  · (intro w hSw; go_simp; (try with_reducible rfl))
  simp only [Act.put, List.getElem_toArray, List.getElem_cons_zero, List.getElem_cons_succ, List.setIfInBounds_toArray, List.set_cons_zero, List.set_cons_succ]
  refine wpAnyH_take (i := 12) (v := ?_) rfl (by kernel_rfl) (by kernel_rfl) (by kernel_rfl) (fun _ _ _ h => h) (Or.inl ⟨by rfl, ?_⟩) hHeld ?_
  rotate_left
  · (intro w hSw; go_simp; (try with_reducible rfl))
  simp only [Act.put, List.getElem_toArray, List.getElem_cons_zero, List.getElem_cons_succ, List.setIfInBounds_toArray, List.set_cons_zero, List.set_cons_succ]
  refine wpAnyH_take (i := 13) (v := ?_) rfl (by kernel_rfl) (by kernel_rfl) (by kernel_rfl) (fun _ _ _ h => h) (Or.inl ⟨by rfl, ?_⟩) hHeld ?_
  rotate_left
  · (intro w hSw; go_simp; (try with_reducible rfl))
  simp only [Act.put, List.getElem_toArray, List.getElem_cons_zero, List.getElem_cons_succ, List.setIfInBounds_toArray, List.set_cons_zero, List.set_cons_succ]
  refine wpAnyH_take (i := 15) (v := .agg st0) rfl (by kernel_rfl) (by kernel_rfl) (by kernel_rfl) (fun _ _ _ h => h) (Or.inl ⟨by rfl, fun W hW => by simp [execOp, build0, Result.andThen]⟩) hHeld ?_
  simp only [Act.put, List.getElem_toArray, List.getElem_cons_zero, List.getElem_cons_succ, List.setIfInBounds_toArray, List.set_cons_zero, List.set_cons_succ]
  refine wpAnyH_ready (rs := [14]) (by kernel_rfl) (by simp) ?_
  refine AllReadyH.cons rfl (fun K hK => ?_) AllReadyH.nil
  simp only [List.getElem_toArray, List.getElem_cons_zero, List.getElem_cons_succ]
  go_simp
  refine (new_code _).mono ?_
  rintro e w12 ⟨rfl, hb12⟩
  go_wp2_with fail
  have hB12 := keepB hb12 hHeld
  refine hK.out _ _ hB12 (fun _ => ?_)
  clear hK K
  try simp only [Act.put, List.setIfInBounds_toArray, List.set_cons_zero, List.set_cons_succ]
  refine anyH_rebase hB12 (fun hHeld => ?_)
  refine wpAnyH_ready (rs := [16]) (by kernel_rfl) (by simp) ?_
  refine AllReadyH.cons rfl (fun K hK => ?_) AllReadyH.nil
  simp only [List.getElem_toArray, List.getElem_cons_zero, List.getElem_cons_succ]
  go_simp
  refine (K5.out _).mono ?_
  rintro e w13 ⟨rfl, hb13⟩
  go_wp2_with fail
  have hB13 := keepB hb13 hHeld
  refine hK.out _ _ hB13 (fun _ => ?_)
  clear hK K
  try simp only [Act.put, List.setIfInBounds_toArray, List.set_cons_zero, List.set_cons_succ]
  refine anyH_rebase hB13 (fun hHeld => ?_)
  refine wpAnyH_take (i := 17) (v := ?_) rfl (by kernel_rfl) (by kernel_rfl) (by kernel_rfl) (fun _ _ _ h => h) (Or.inl ⟨by rfl, ?_⟩) hHeld ?_
  rotate_left
  · (intro w hSw; go_simp; (try with_reducible rfl))
  simp only [Act.put, List.getElem_toArray, List.getElem_cons_zero, List.getElem_cons_succ, List.setIfInBounds_toArray, List.set_cons_zero, List.set_cons_succ]
  refine wpAnyH_take (i := 18) (v := ?_) rfl (by kernel_rfl) (by kernel_rfl) (by kernel_rfl) (fun _ _ _ h => h) (Or.inl ⟨by rfl, ?_⟩) hHeld ?_
  rotate_left
  · (intro w hSw; go_simp; (try with_reducible rfl))
  simp only [Act.put, List.getElem_toArray, List.getElem_cons_zero, List.getElem_cons_succ, List.setIfInBounds_toArray, List.set_cons_zero, List.set_cons_succ]
  have hB813 := keepB hB13 (keepB hB12 hB811)
  refine wpAnyH_done (by kernel_rfl) ?_ _
  have HP := Lib.hid (HSp.out.keep (by have := HG.out; omega) hB813)
  have hcc0 : cc[0]? = some (.slice Oc.A Oc.n Oc.c) := by rw [HR6.out.cs, stC_objs]; rfl
  have hccz : ∀ z < 11, ∃ A n c, cc[1 + z]? = some (.slice A n c) ∧ A = (Lc z).A ∧ n = (Lc z).n ∧ n ≤ 210 := fun z hz => by
    refine ⟨(Lc z).A, (Lc z).n, (Lc z).c, ?_, rfl, rfl, ?_⟩
    · rw [HR6.out.cs, stC_list _ _ _ _ hz]; rfl
    · have := (HR6.out.l z hz).len; have := HLa.out z hz; omega
  have hon : Oc.n ≤ 200 := by rw [HR6.out.on]; exact hna
  have HCz := Lib.hid hccz
  clear hB813 hB13 hB12 hB811 hB810 hB10 hB9 hHeld K1 K2 K3 K5 HS29 HS39 HS2 HS3 HS5 HS6 HSp hccz
  obtain ⟨A6, n6, c6⟩ := Oc
  simp only at hcc0 hon
  have h0 := (HP.out.a.cell 0).trans hcc0
  obtain ⟨base, hbase⟩ : ∃ base, base = w6.heap.size := ⟨_, rfl⟩
  rw [← hbase] at HP
  have HBase := Lib.hid hbase
  clear hbase
  go_upto_region 10 with fail
  clear h0
  have hc0 : ∀ W, SpS base w6 g6 cc ⟨A6, n6, c6⟩ Lc W → W.cell? ⟨g6, 0, none⟩ = some (.slice A6 n6 c6) := fun W hW => (hW.a.cell 0).trans hcc0
  go_loopw [44] (fun i wr => ∃ k : Nat, i = .int .i64 ((k : Nat) : Int) ∧ k ≤ n6 ∧ Hid (SpS base w6 g6 cc ⟨A6, n6, c6⟩ Lc wr)) (fun i _ => n6 - (intOf i).toNat)
  case atStart => exact ⟨0, rfl, by omega, HP⟩
  case round =>
    clear HP
    obtain ⟨k, rfl, hk, HP⟩ := hrel
    by_cases hlt : k < n6
    · have hd : decide ((k : Int) < (n6 : Int)) = true := by simp; omega
      have p0 : (0 : Int) ≤ (k : Int) := by omega
      have p1 : (k : Int) < (n6 : Int) := by omega
      obtain ⟨b', off, rfl, h1, h2, ⟨x, q1⟩, q2⟩ := HP.out.drew.o (k * 18) (by simp only; omega)
      obtain ⟨y, hy⟩ : ∃ y, IntKind.i64.wrap (x + 1) = y := ⟨_, rfl⟩
      have HZ1 := Lib.hid HP.out.drew
      have HS8 := Lib.hid (HP.out.drew.set_ h1 h2 (off + k * 18) y)
      go_upto_region 12 with fail
      refine wp_region_held_drew (S := SpS base w6 g6 cc ⟨some ⟨b', off, none⟩, n6, c6⟩ Lc) (by kernel_rfl) HZ1.out (fun hHeld => ?_)
      generalize wr.drew = W0 at hHeld HZ1 HS8 q1 q2 ⊢
      refine wpAnyH_take (i := 0) (v := ?_) rfl (by kernel_rfl) (by kernel_rfl) (by kernel_rfl) (fun _ _ _ h => h) (Or.inl ⟨by rfl, ?_⟩) hHeld ?_
      rotate_left
      · (intro w hSw; go_simp; (try with_reducible rfl))
      simp only [Act.put, List.getElem_toArray, List.getElem_cons_zero, List.getElem_cons_succ, List.setIfInBounds_toArray, List.set_cons_zero, List.set_cons_succ]
      refine wpAnyH_take (i := 1) (v := ?_) rfl (by kernel_rfl) (by kernel_rfl) (by kernel_rfl) (fun _ _ _ h => h) (Or.inl ⟨by rfl, ?_⟩) hHeld ?_
      rotate_left
      · (intro w hSw; go_simp; (try with_reducible rfl))
      simp only [Act.put, List.getElem_toArray, List.getElem_cons_zero, List.getElem_cons_succ, List.setIfInBounds_toArray, List.set_cons_zero, List.set_cons_succ]
      refine wpAnyH_take (i := 2) (v := ?_) rfl (by kernel_rfl) (by kernel_rfl) (by kernel_rfl) (fun _ _ _ h => h) (Or.inl ⟨by rfl, ?_⟩) hHeld ?_
      rotate_left
      · (intro w hSw; go_simp; (try with_reducible rfl))
      simp only [Act.put, List.getElem_toArray, List.getElem_cons_zero, List.getElem_cons_succ, List.setIfInBounds_toArray, List.set_cons_zero, List.set_cons_succ]
      refine wpAnyH_take (i := 3) (v := ?_) rfl (by kernel_rfl) (by kernel_rfl) (by kernel_rfl) (fun _ _ _ h => h) (Or.inl ⟨by rfl, ?_⟩) hHeld ?_
      rotate_left
      · (intro w hSw; go_simp; (try with_reducible rfl))
      simp only [Act.put, List.getElem_toArray, List.getElem_cons_zero, List.getElem_cons_succ, List.setIfInBounds_toArray, List.set_cons_zero, List.set_cons_succ]
      refine wpAnyH_take (i := 4) (v := ?_) rfl (by kernel_rfl) (by kernel_rfl) (by kernel_rfl) (fun _ _ _ h => h) (Or.inl ⟨by rfl, ?_⟩) hHeld ?_
      rotate_left
      · (intro w hSw; go_simp; (try with_reducible rfl))
      simp only [Act.put, List.getElem_toArray, List.getElem_cons_zero, List.getElem_cons_succ, List.setIfInBounds_toArray, List.set_cons_zero, List.set_cons_succ]
      refine wpAnyH_take (i := 7) (v := ?_) rfl (by kernel_rfl) (by kernel_rfl) (by kernel_rfl) (fun _ _ _ h => h) (Or.inl ⟨by rfl, ?_⟩) hHeld ?_
      rotate_left
      · (intro w hSw; go_simp; (try with_reducible rfl))
      simp only [Act.put, List.getElem_toArray, List.getElem_cons_zero, List.getElem_cons_succ, List.setIfInBounds_toArray, List.set_cons_zero, List.set_cons_succ]
      refine wpAnyH_ready (rs := [5]) (by kernel_rfl) (by simp) ?_
      refine AllReadyH.cons rfl (fun K hK => ?_) AllReadyH.nil
      simp only [List.getElem_toArray, List.getElem_cons_zero, List.getElem_cons_succ]
      go_simp
      refine hK.out _ _ hHeld (fun _ => ?_)
      clear hK K
      try simp only [Act.put, List.setIfInBounds_toArray, List.set_cons_zero, List.set_cons_succ]
      refine wpAnyH_take (i := 6) (v := ?_) rfl (by kernel_rfl) (by kernel_rfl) (by kernel_rfl) (fun _ _ _ h => h) (Or.inl ⟨by rfl, ?_⟩) hHeld ?_
      rotate_left
      · (intro w hSw; go_simp; (try with_reducible rfl))
      simp only [Act.put, List.getElem_toArray, List.getElem_cons_zero, List.getElem_cons_succ, List.setIfInBounds_toArray, List.set_cons_zero, List.set_cons_succ]
      refine wpAnyH_take (i := 8) (v := ?_) rfl (by kernel_rfl) (by kernel_rfl) (by kernel_rfl) (fun _ _ _ h => h) (Or.inl ⟨by rfl, ?_⟩) hHeld ?_
      rotate_left
      · (intro w hSw; go_simp; (try with_reducible rfl))
      simp only [Act.put, List.getElem_toArray, List.getElem_cons_zero, List.getElem_cons_succ, List.setIfInBounds_toArray, List.set_cons_zero, List.set_cons_succ]
      refine wpAnyH_ready (rs := [9]) (by kernel_rfl) (by simp) ?_
      refine AllReadyH.cons rfl (fun K hK => ?_) AllReadyH.nil
      simp only [List.getElem_toArray, List.getElem_cons_zero, List.getElem_cons_succ]
      go_simp
      refine hK.out _ _ HS8.out (fun _ => ?_)
      clear hK K q1 q2 hHeld HZ1 hy
      refine wpAnyH_done (by kernel_rfl) ?_ _
      go_wp2_with fail
      go_roundw
      case rel => exact ⟨k + 1, by go_num, by omega, HS8⟩
      case measure => simp [intOf]; omega
    · obtain rfl : k = n6 := by omega
      clear hc0 hlt
      go_upto_region 15 with fail
      go_loopw [57] (fun i wq => ∃ z : Nat, i = .int .i64 ((z : Nat) : Int) ∧ z ≤ 11 ∧ Hid (SpS base w6 g6 cc ⟨A6, k, c6⟩ Lc wq)) (fun i _ => 11 - (intOf i).toNat)
      case atStart => exact ⟨0, rfl, by omega, HP⟩
      case round =>
        clear HP
        obtain ⟨z, rfl, hz, HP⟩ := hrel
        by_cases hlt : z < 11
        · have hd : decide ((z : Int) < 11) = true := by simp; omega
          have p0 : (0 : Int) ≤ (z : Int) := by omega
          have p1 : (z : Int) < 11 := by omega
          obtain ⟨Az, nz, cz, hcz, eA, en, hnz⟩ := HCz.out z hlt
          have h0 := (HP.out.a.cell (1 + z)).trans hcz
          have HAz := Lib.hid (show ∀ W, SpS base w6 g6 cc ⟨A6, k, c6⟩ Lc W → ∀ i < nz, ∃ b off, Az = some ⟨b, off, none⟩ ∧ base ≤ b ∧ b < g6 ∧ IntC W b (off + i) from fun W hW i hi => by rw [eA]; exact hW.l z hlt i (by omega))
          clear eA en
          go_upto_region 18 with fail
          clear h0
          go_loopw [65] (fun i wq => ∃ j : Nat, i = .int .i64 ((j : Nat) : Int) ∧ j ≤ nz ∧ Hid (SpS base w6 g6 cc ⟨A6, k, c6⟩ Lc wq)) (fun i _ => nz - (intOf i).toNat)
          case atStart => exact ⟨0, rfl, by omega, HP⟩
          case round =>
            clear HP
            obtain ⟨j, rfl, hj, HP⟩ := hrel
            by_cases hjn : j < nz
            · have hd2 : decide ((j : Int) < (nz : Int)) = true := by simp; omega
              have r0 : (0 : Int) ≤ (j : Int) := by omega
              have r1 : (j : Int) < (nz : Int) := by omega
              have h0 := (HP.out.a.cell (1 + z)).trans hcz
              obtain ⟨b', off, rfl, h1, h2, ⟨x, q1⟩, q2⟩ := HAz.out _ HP.out j hjn
              obtain ⟨y, hy⟩ : ∃ y, IntKind.i64.wrap (x + 1) = y := ⟨_, rfl⟩
              have HS8 := Lib.hid (HP.out.set_ h1 h2 (off + j) y)
              go_wp2_with fail
              clear h0 q1 q2 hy
              go_roundw
              case rel => exact ⟨j + 1, by go_num, by omega, HS8⟩
              case measure => simp [intOf]; omega
            · obtain rfl : j = nz := by omega
              go_wp2_with fail
              go_roundw
              case rel => exact ⟨z + 1, by go_num, by omega, HP⟩
              case measure => simp [intOf]; omega
        · obtain rfl : z = 11 := by omega
          have hb6 := HP.out.b
          rw [HBase.out] at hb6
          have hbw := keepB hb6 HT6.out.b
          have hsa := HT6.out.sa.keep hb6
          have hs5 := HS56.out.keep hb6
          have hcw := HR56.out.size
          have HK := Lib.hid (states_any a a _ _ La Lw ca cw wr (HA.out.grow hbw) (HR56.out.grow hb6) hna6 hna6 hla6 hla6)
          clear hb6
          rw [sameS_refl] at HK
          go_wp2_with (first
            | (refine load_wantS (by rfl) (.tmp 2) rfl w.heap.size rfl ca hsa hca ?_)
            | (refine load_wantS (by rfl) (.tmp 5) rfl g5 rfl cw hs5 hcw ?_))
          refine HK.out.mono ?_
          rintro e w14 ⟨rfl, hb14⟩
          go_wp2_with fail
          go_ret
          exact ⟨rfl, keepB hb14 hbw⟩
end Go.Proofs.YtkchpfifngknaaaDoor
