/- Layer 12: the law EventParses. -/
import Derived.Test.YthedopnhhanknaaEvLw
import Derived.Test.YthedopnhhanknaaEvG5
import Derived.Test.YthedopnhhanknaaWireG
namespace Go.Proofs.Ythedopnhhanknaa
open Go.RowKit Ex Wx
set_option maxRecDepth 100000
/-- The array of numbers. -/
def A6 (W : World) (g : Nat) (x : EvT) : Prop := W.heap[g]? = some (.cells (evC x) 54 (0, 0))
theorem A6.lt {W : World} {g : Nat} {x : EvT} (h : A6 W g x) : g < W.heap.size := (Array.getElem?_eq_some_iff.1 h).1
theorem A6.keep {W W' : World} {g : Nat} {x : EvT} (h : A6 W g x) (hb : Below W.heap.size W W') : A6 W' g x := (hb.block g h.lt).trans h
def setE (x : EvT) (k : Nat) (n : Int) : EvT :=
  match k with
  | 0 => { x with k := n }
  | 1 => { x with a := n }
  | 2 => { x with b := n }
  | 3 => { x with c := n }
  | 4 => { x with d := n }
  | _ => { x with e := n }
theorem evC_set (x : EvT) {k : Nat} (h : k < 6) (n : Int) : (evC x).setIfInBounds k (.int .i64 n) = evC (setE x k n) := by
  match k, h with
  | 0, _ => rfl
  | 1, _ => rfl
  | 2, _ => rfl
  | 3, _ => rfl
  | 4, _ => rfl
  | 5, _ => rfl
  | _ + 6, h => omega
theorem evC_some (x : EvT) {k : Nat} (h : k < 6) : ∃ n, (evC x)[k]? = some (.int .i64 n) := by
  match k, h with
  | 0, _ => exact ⟨_, rfl⟩
  | 1, _ => exact ⟨_, rfl⟩
  | 2, _ => exact ⟨_, rfl⟩
  | 3, _ => exact ⟨_, rfl⟩
  | 4, _ => exact ⟨_, rfl⟩
  | 5, _ => exact ⟨_, rfl⟩
  | _ + 6, h => omega
/-- The numbers so far. -/
structure PrR (w : World) (g3 : Nat) (l : List Int) (j a : Nat) (bad : Int) (W : World) : Prop where
  ar : ∃ x, A6 W g3 x ∧ (bad = 0 → ∃ acc, x = ofN acc ∧ acc.length = j ∧ more (6 - j) l a acc = more 6 l 0 [])
  bd : bad ≠ 0 → more 6 l 0 [] = ([], 0, bad)
  al : a ≤ l.length
  b : Below w.heap.size w W
theorem PrR.next {w : World} {g3 : Nat} {l : List Int} {j a : Nat} {W : World} (h : PrR w g3 l j a 0 W) (hj : j < 6) (hg : w.heap.size ≤ g3) (hl : byB l) {n : Int} {k : Nat} {e : Int} (ht : tk (l.drop a) = (n, k, e)) : PrR w g3 l (j + 1) (a + k) e (W.setCell ⟨g3, j, none⟩ (.int .i64 n)) := by
  obtain ⟨x, hx, hacc⟩ := h.ar
  obtain ⟨acc, rfl, hlen, hm⟩ := hacc rfl
  have hrg := tk_range (l := l.drop a) (fun y hy => hl y (List.mem_of_mem_drop hy)) ht
  have hset : A6 (W.setCell ⟨g3, j, none⟩ (.int .i64 n)) g3 (ofN (acc ++ [n])) := by
    unfold A6
    have hs := ofN_snoc acc n (by omega)
    rw [hlen] at hs
    rw [heap_setCell_same W g3 j _ _ _ hx, hs]
  refine ⟨⟨_, hset, fun h0 => ⟨acc ++ [n], rfl, by simp [hlen], ?_⟩⟩, fun h0 => ?_, ?_, h.b.setCell (p := ⟨g3, j, none⟩) hg _⟩
  · subst h0
    have h2 := more_ok (m := 6 - (j + 1)) (acc := acc) ht
    rw [show 6 - (j + 1) + 1 = 6 - j by omega] at h2
    rw [← h2]; exact hm
  · rw [← hm, show 6 - j = 6 - (j + 1) + 1 by omega]
    exact more_bad ht h0
  · rcases hrg with ⟨_, h1, _⟩ | ⟨_, _, h1, _⟩
    · have := h.al; omega
    · rw [List.length_drop] at h1; have := h.al; omega
theorem A6.cells {w : World} {g : Nat} {e : EvT} (h : A6 w g e) : w.cell? ⟨g, 0, none⟩ = some (.int .i64 e.k) ∧ w.cell? ⟨g, 1, none⟩ = some (.int .i64 e.a) ∧ w.cell? ⟨g, 2, none⟩ = some (.int .i64 e.b) ∧ w.cell? ⟨g, 3, none⟩ = some (.int .i64 e.c) ∧ w.cell? ⟨g, 4, none⟩ = some (.int .i64 e.d) ∧ w.cell? ⟨g, 5, none⟩ = some (.int .i64 e.e) :=
  ⟨cell_of_row w g 0 _ _ _ h, cell_of_row w g 1 _ _ _ h, cell_of_row w g 2 _ _ _ h, cell_of_row w g 3 _ _ _ h, cell_of_row w g 4 _ _ _ h, cell_of_row w g 5 _ _ _ h⟩
theorem load_evU {ops : Array Oper} {rest : List Oper} {op : Oper} {a : Act} {w : World} {Q : Exit → Act → World → Prop} (hw : Region.wanted op (yielded ops a.tmps) = true) (x : Operand) (ho : op.op = .load 31 x)
    (g : Nat) (hx : a.eval x = .pointer (some ⟨g, 0, none⟩)) (e : EvT) (h : EvB w g e)
    (hK : wpList Try.prog ops Q rest (a.put op.dst (.agg #[.int .i64 e.k, .int .i64 e.a, .int .i64 e.b, .int .i64 e.c, .int .i64 e.d, .int .i64 e.e])) w) : wpList Try.prog ops Q (op :: rest) a w := load_ev hw x ho g hx e h hK
set_option linter.unusedSimpArgs false in
set_option maxHeartbeats 0 in
theorem eventParses_walk {w : World} (E : EvSaid w) (A : Option Addr) (n c : Nat) (l : List Int) (hN : Nums .u8 w w.heap.size A n l) (hc : n ≤ c) (hb : byB l) :
    Calls Try.prog 5 #[.slice A n c] w fun en w' => en = .returned (.bool true) ∧ Below w.heap.size w w' := by
  have HN := Lib.hid hN
  have HB := Lib.hid hb
  have HL := Lib.hid hN.len
  clear hN hb
  go_enter Try.func5, Try.ntmps5
  go_upto_region 1 with fail
  go_wp2_with fail
  refine (evAlive E w (Below.refl _ _)).mono ?_
  rintro en w2 ⟨rfl, hb2⟩
  by_cases h300 : 300 < n
  · have hd : decide ((300 : Int) < (n : Int)) = true := decide_eq_true (by omega)
    clear h300
    go_wp2_with fail
    go_ret
    exact ⟨rfl, hb2⟩
  have hd : decide ((300 : Int) < (n : Int)) = false := decide_eq_false (by omega)
  go_upto_region 5 with fail
  clear hd
  have HN2 := Lib.hid ((HN.out.below hb2).more hb2.size)
  have hz6 := ev0_is
  have hnew : (w2.alloc (.cells (evC ev0) 54)).heap[w2.heap.size]? = some (.cells (evC ev0) 54 (0, 0)) := heap_alloc_new _ _
  have hs6 : (Try.prog.info? 54).map (·.size) = some (evC ev0).size := by kernel_rfl
  have ho6 := evC_one ev0
  go_upto_region 6 with (refine wpList_store_row rfl 54 (.tmp 3) (.tmp 18) rfl w2.heap.size _ rfl rfl 54 (evC ev0) hnew hs6 rfl ho6 ?_)
  obtain ⟨w3, hw3⟩ : ∃ w3, w3 = (w2.alloc (.cells (evC ev0) 54)).setRow w2.heap.size (evC ev0) := ⟨_, rfl⟩
  have hA3 : A6 w3 w2.heap.size ev0 := by rw [hw3]; exact setRow_heap _ _ _ _ _ _ hnew
  have hb3 : Below w2.heap.size w2 w3 := by rw [hw3]; exact below_setRow ((Below.refl _ _).alloc (Nat.le_refl _) _) _ _ (Nat.le_refl _)
  rw [← hw3]
  have hbw3 := keepB hb3 hb2
  have HN3 := Lib.hid ((HN.out.below hbw3).more hbw3.size)
  obtain ⟨g3, hg3⟩ : ∃ g, g = w2.heap.size := ⟨_, rfl⟩
  have HG3 := Lib.hid (show w.heap.size ≤ g3 by rw [hg3]; exact hb2.size)
  rw [← hg3] at hA3 ⊢
  have HP0 := Lib.hid (show PrR w g3 l 0 0 0 w3 from ⟨⟨ev0, hA3, fun _ => ⟨[], rfl, rfl, rfl⟩⟩, fun h => absurd rfl h, Nat.zero_le _, hbw3⟩)
  have HNC := Lib.hid (And.intro hc h300)
  clear hw3 hb3 hg3 hnew hs6 ho6 hA3 hbw3 HN2 HN3 hb2 hc h300
  go_upto_region 7 with fail
  go_loopw [4, 5, 6] (fun at_ bd i wr => ∃ (j a : Nat) (bad : Int), i = .int .i64 ((j : Nat) : Int) ∧ at_ = .int .i64 ((a : Nat) : Int) ∧ bd = .int .i64 bad ∧ j ≤ 6 ∧ Hid (PrR w g3 l j a bad wr)) (fun _ _ i _ => 6 - (intOf i).toNat)
  case atStart => exact ⟨0, 0, 0, rfl, rfl, rfl, by omega, HP0⟩
  case round =>
    clear HP0
    obtain ⟨j, a, bad, rfl, rfl, rfl, hj, HO⟩ := hrel
    by_cases hlt : j < 6
    · have hd : decide ((j : Int) < 6) = true := by simp; omega
      by_cases hb0 : bad = 0
      · subst hb0
        obtain ⟨hcc, h300⟩ := HNC.out
        have hal := HO.out.al
        rw [HL.out] at hal
        have hNr := (HN.out.below HO.out.b).more HO.out.b.size
        obtain ⟨A2, hcut, hN2⟩ := cut_from (P := Try.prog) hNr hcc hal 48 (by kernel_rfl) (fun _ => by kernel_rfl)
        obtain ⟨x, kk, e0, htk⟩ : ∃ x kk e0, tk (l.drop a) = (x, kk, e0) := ⟨_, _, _, rfl⟩
        have htr := takeRef_gen A2 (n - a) (c - a) (l.drop a) wr _ hN2 (fun y hy => HB.out y (List.mem_of_mem_drop hy)) (by omega) (x, kk, e0) htk
        simp only at htr
        have hrg := tk_range (l := l.drop a) (fun y hy => HB.out y (List.mem_of_mem_drop hy)) htk
        have hk10 : kk ≤ 10 := by
          rcases hrg with ⟨_, h1, _⟩ | ⟨_, _, _, h1, _⟩ <;> omega
        have HO2 := Lib.hid (HO.out.next hlt HG3.out HB.out htk)
        obtain ⟨y, hy, _⟩ := HO.out.ar
        obtain ⟨old, hold⟩ := evC_some y hlt
        have k3 := cell_of_row wr g3 j _ _ _ hy
        rw [hold] at k3
        have f3 := frozen_of_row wr g3 j _ _ hy
        have e1 : IntKind.i64.wrap ((a : Int) + (kk : Int)) = ((a + kk : Nat) : Int) := by rw [i64_in (by omega) (by omega)]; omega
        have g0 : (0 : Int) ≤ (j : Int) := by omega
        have g1 : (j : Int) < 6 := by omega
        clear hcc h300 hal hNr hN2 htk hrg hk10 hy hold
        go_wp2_with fail
        refine htr.mono ?_
        rintro en w5 ⟨rfl, rfl⟩
        clear htr hcut
        go_wp2_with fail
        go_roundw
        case rel => exact ⟨j + 1, a + kk, e0, by go_num, rfl, rfl, by omega, HO2⟩
        case measure => simp [intOf]; omega
      · have hdb : (bad == 0) = false := beq_eq_false_iff_ne.2 hb0
        have HB0 := Lib.hid hb0
        clear hb0
        have HPa := Lib.hid (show parseE l = (ev0, bad) from by
          unfold parseE
          rw [HO.out.bd HB0.out]
          simp only
          rw [if_pos HB0.out])
        have hd2 : (bad != 0) = true := bne_iff_ne.2 HB0.out
        obtain ⟨x, hx, _⟩ := HO.out.ar
        clear hz6
        obtain ⟨q0, q1, q2, q3, q4, q5⟩ := hx.cells
        have hnew : (wr.alloc (.cells (evC ev0) 31)).heap[wr.heap.size]? = some (.cells (evC ev0) 31 (0, 0)) := heap_alloc_new _ _
        have hsx := ev_size x
        have hox := evC_one x
        go_upto_region 13 with (refine wpList_store_row rfl 31 (.tmp 10) (.tmp 54) rfl wr.heap.size (evC x) rfl rfl 31 (evC ev0) hnew hsx rfl hox ?_)
        clear q0 q1 q2 q3 q4 q5 hx hnew hsx hox
        obtain ⟨w10, hw10, hE10, hb10⟩ := ev_box wr x
        show Code.wp _ _ _ _ ((wr.alloc (.cells (evC ev0) 31)).setRow wr.heap.size (evC x))
        rw [← hw10]
        obtain ⟨g10, hg10⟩ : ∃ g, g = wr.heap.size := ⟨_, rfl⟩
        rw [← hg10] at hE10 ⊢
        have hbw10 := keepB hb10 HO.out.b
        have HG10 := Lib.hid (show w.heap.size ≤ g10 by rw [hg10]; exact HO.out.b.size)
        clear hw10 hg10 hb10
        have hs0 := ev_size ev0
        have ho0 := evC_one ev0
        have hsz : (evC x).size = (evC ev0).size := rfl
        have hE10' : w10.heap[g10]? = some (.cells (evC x) 31 (0, 0)) := hE10
        go_upto_region 19 with (refine wpList_store_row rfl 31 (.tmp 10) (.tmp 69) rfl g10 (evC ev0) rfl rfl 31 (evC x) hE10' hs0 hsz ho0 ?_)
        have hE19 : EvB (w10.setRow g10 (evC ev0)) g10 ev0 := setRow_heap _ _ _ _ _ _ hE10'
        have hbw19 : Below w.heap.size w (w10.setRow g10 (evC ev0)) := below_setRow hbw10 _ _ HG10.out
        clear hs0 ho0 hsz hE10' hE10 hbw10
        show Code.wp _ _ _ _ (w10.setRow g10 (evC ev0))
        generalize w10.setRow g10 (evC ev0) = w19 at hE19 hbw19 ⊢
        clear hdb hd2
        have hpa := E.parse A n c l w19 ((HN.out.below hbw19).more hbw19.size) HNC.out.1 HB.out (by have := HNC.out.2; omega) hbw19
        rw [HPa.out] at hpa
        go_wp2_with fail
        refine hpa.mono ?_
        rintro en w20 ⟨rfl, hb20⟩
        clear hpa
        have hE20 := hE19.keep hb20
        have hbw20 := keepB hb20 hbw19
        clear hE19 hbw19 hb20
        have hz6 := ev0_is
        have hnew : (w20.alloc (.cells (evC ev0) 31)).heap[w20.heap.size]? = some (.cells (evC ev0) 31 (0, 0)) := heap_alloc_new _ _
        have hsx := ev_size ev0
        have hox := evC_one ev0
        go_upto_region 20 with (refine wpList_store_row rfl 31 (.tmp 11) (.tmp 73) rfl w20.heap.size (evC ev0) rfl rfl 31 (evC ev0) hnew hsx rfl hox ?_)
        obtain ⟨w21, hw21, hE21, hb21⟩ := ev_box w20 ev0
        rw [← hw21]
        have hE22 := hE20.keep hb21
        have hbw21 := keepB hb21 hbw20
        obtain ⟨g11, hg11⟩ : ∃ g, g = w20.heap.size := ⟨_, rfl⟩
        rw [← hg11] at hE21 ⊢
        clear hw21 hg11 hnew hsx hox hE20 hbw20 hb21 hz6
        have heq := fun W => eql_ev ev0 W
        unfold evV at heq
        have hbb : (bad == bad) = true := beq_self_eq_true _
        go_wp2_with (first
          | (refine load_evU (by rfl) (.tmp 11) rfl g11 rfl ev0 hE21 ?_)
          | (refine load_evU (by rfl) (.tmp 10) rfl g10 rfl ev0 hE22 ?_))
        refine (num_by bad _).mono ?_
        rintro en w23 ⟨rfl, rfl⟩
        go_wp2_with fail
        go_ret
        exact ⟨rfl, hbw21⟩
    · obtain rfl : j = 6 := by omega
      have hd : decide (((6 : Nat) : Int) < 6) = false := by decide
      by_cases hb0 : bad = 0
      case neg =>
        have hdb : (bad == 0) = false := beq_eq_false_iff_ne.2 hb0
        have HB0 := Lib.hid hb0
        clear hb0
        have HPa := Lib.hid (show parseE l = (ev0, bad) from by
          unfold parseE
          rw [HO.out.bd HB0.out]
          simp only
          rw [if_pos HB0.out])
        have hd2 : (bad != 0) = true := bne_iff_ne.2 HB0.out
        obtain ⟨x, hx, _⟩ := HO.out.ar
        clear hz6
        obtain ⟨q0, q1, q2, q3, q4, q5⟩ := hx.cells
        have hnew : (wr.alloc (.cells (evC ev0) 31)).heap[wr.heap.size]? = some (.cells (evC ev0) 31 (0, 0)) := heap_alloc_new _ _
        have hsx := ev_size x
        have hox := evC_one x
        go_upto_region 13 with (refine wpList_store_row rfl 31 (.tmp 10) (.tmp 54) rfl wr.heap.size (evC x) rfl rfl 31 (evC ev0) hnew hsx rfl hox ?_)
        clear q0 q1 q2 q3 q4 q5 hx hnew hsx hox
        obtain ⟨w10, hw10, hE10, hb10⟩ := ev_box wr x
        show Code.wp _ _ _ _ ((wr.alloc (.cells (evC ev0) 31)).setRow wr.heap.size (evC x))
        rw [← hw10]
        obtain ⟨g10, hg10⟩ : ∃ g, g = wr.heap.size := ⟨_, rfl⟩
        rw [← hg10] at hE10 ⊢
        have hbw10 := keepB hb10 HO.out.b
        have HG10 := Lib.hid (show w.heap.size ≤ g10 by rw [hg10]; exact HO.out.b.size)
        clear hw10 hg10 hb10
        have hs0 := ev_size ev0
        have ho0 := evC_one ev0
        have hsz : (evC x).size = (evC ev0).size := rfl
        have hE10' : w10.heap[g10]? = some (.cells (evC x) 31 (0, 0)) := hE10
        go_upto_region 19 with (refine wpList_store_row rfl 31 (.tmp 10) (.tmp 69) rfl g10 (evC ev0) rfl rfl 31 (evC x) hE10' hs0 hsz ho0 ?_)
        have hE19 : EvB (w10.setRow g10 (evC ev0)) g10 ev0 := setRow_heap _ _ _ _ _ _ hE10'
        have hbw19 : Below w.heap.size w (w10.setRow g10 (evC ev0)) := below_setRow hbw10 _ _ HG10.out
        clear hs0 ho0 hsz hE10' hE10 hbw10
        show Code.wp _ _ _ _ (w10.setRow g10 (evC ev0))
        generalize w10.setRow g10 (evC ev0) = w19 at hE19 hbw19 ⊢
        clear hdb hd2
        have hpa := E.parse A n c l w19 ((HN.out.below hbw19).more hbw19.size) HNC.out.1 HB.out (by have := HNC.out.2; omega) hbw19
        rw [HPa.out] at hpa
        go_wp2_with fail
        refine hpa.mono ?_
        rintro en w20 ⟨rfl, hb20⟩
        clear hpa
        have hE20 := hE19.keep hb20
        have hbw20 := keepB hb20 hbw19
        clear hE19 hbw19 hb20
        have hz6 := ev0_is
        have hnew : (w20.alloc (.cells (evC ev0) 31)).heap[w20.heap.size]? = some (.cells (evC ev0) 31 (0, 0)) := heap_alloc_new _ _
        have hsx := ev_size ev0
        have hox := evC_one ev0
        go_upto_region 20 with (refine wpList_store_row rfl 31 (.tmp 11) (.tmp 73) rfl w20.heap.size (evC ev0) rfl rfl 31 (evC ev0) hnew hsx rfl hox ?_)
        obtain ⟨w21, hw21, hE21, hb21⟩ := ev_box w20 ev0
        rw [← hw21]
        have hE22 := hE20.keep hb21
        have hbw21 := keepB hb21 hbw20
        obtain ⟨g11, hg11⟩ : ∃ g, g = w20.heap.size := ⟨_, rfl⟩
        rw [← hg11] at hE21 ⊢
        clear hw21 hg11 hnew hsx hox hE20 hbw20 hb21 hz6
        have heq := fun W => eql_ev ev0 W
        unfold evV at heq
        have hbb : (bad == bad) = true := beq_self_eq_true _
        go_wp2_with (first
          | (refine load_evU (by rfl) (.tmp 11) rfl g11 rfl ev0 hE21 ?_)
          | (refine load_evU (by rfl) (.tmp 10) rfl g10 rfl ev0 hE22 ?_))
        refine (num_by bad _).mono ?_
        rintro en w23 ⟨rfl, rfl⟩
        go_wp2_with fail
        go_ret
        exact ⟨rfl, hbw21⟩
      subst hb0
      obtain ⟨x, hx, hacc⟩ := HO.out.ar
      obtain ⟨acc, hxa, _, hm⟩ := hacc rfl
      have HM := Lib.hid (show more 6 l 0 [] = (acc, a, 0) from by rw [← hm]; rfl)
      have HXa := Lib.hid hxa
      clear hacc hxa hm
      clear hz6
      obtain ⟨q0, q1, q2, q3, q4, q5⟩ := hx.cells
      have hnew : (wr.alloc (.cells (evC ev0) 31)).heap[wr.heap.size]? = some (.cells (evC ev0) 31 (0, 0)) := heap_alloc_new _ _
      have hsx := ev_size x
      have hox := evC_one x
      go_upto_region 13 with (refine wpList_store_row rfl 31 (.tmp 10) (.tmp 54) rfl wr.heap.size (evC x) rfl rfl 31 (evC ev0) hnew hsx rfl hox ?_)
      clear q0 q1 q2 q3 q4 q5 hx hnew hsx hox
      obtain ⟨w10, hw10, hE10, hb10⟩ := ev_box wr x
      show Code.wp _ _ _ _ ((wr.alloc (.cells (evC ev0) 31)).setRow wr.heap.size (evC x))
      rw [← hw10]
      obtain ⟨g10, hg10⟩ : ∃ g, g = wr.heap.size := ⟨_, rfl⟩
      rw [← hg10] at hE10 ⊢
      have hbw10 := keepB hb10 HO.out.b
      have HG10 := Lib.hid (show w.heap.size ≤ g10 by rw [hg10]; exact HO.out.b.size)
      clear hw10 hg10 hb10
      by_cases hal : a < n
      · have HPa := Lib.hid (show parseE l = (ev0, 3) from by
          unfold parseE
          rw [HM.out]
          simp only [ne_eq, not_true_eq_false, if_false]
          rw [if_pos (by rw [HL.out]; exact hal)])
        have hd2 : decide (a < n) = true := decide_eq_true hal
        clear hal
        have hs0 := ev_size ev0
        have ho0 := evC_one ev0
        have hsz : (evC x).size = (evC ev0).size := rfl
        have hE10' : w10.heap[g10]? = some (.cells (evC x) 31 (0, 0)) := hE10
        go_upto_region 19 with (refine wpList_store_row rfl 31 (.tmp 10) (.tmp 69) rfl g10 (evC ev0) rfl rfl 31 (evC x) hE10' hs0 hsz ho0 ?_)
        have hE19 : EvB (w10.setRow g10 (evC ev0)) g10 ev0 := setRow_heap _ _ _ _ _ _ hE10'
        have hbw19 : Below w.heap.size w (w10.setRow g10 (evC ev0)) := below_setRow hbw10 _ _ HG10.out
        clear hs0 ho0 hsz hE10' hE10 hbw10
        show Code.wp _ _ _ _ (w10.setRow g10 (evC ev0))
        generalize w10.setRow g10 (evC ev0) = w19 at hE19 hbw19 ⊢
        clear hd2
        have hpa := E.parse A n c l w19 ((HN.out.below hbw19).more hbw19.size) HNC.out.1 HB.out (by have := HNC.out.2; omega) hbw19
        rw [HPa.out] at hpa
        go_wp2_with fail
        refine hpa.mono ?_
        rintro en w20 ⟨rfl, hb20⟩
        clear hpa
        have hE20 := hE19.keep hb20
        have hbw20 := keepB hb20 hbw19
        clear hE19 hbw19 hb20
        have hz6 := ev0_is
        have hnew : (w20.alloc (.cells (evC ev0) 31)).heap[w20.heap.size]? = some (.cells (evC ev0) 31 (0, 0)) := heap_alloc_new _ _
        have hsx := ev_size ev0
        have hox := evC_one ev0
        go_upto_region 20 with (refine wpList_store_row rfl 31 (.tmp 11) (.tmp 73) rfl w20.heap.size (evC ev0) rfl rfl 31 (evC ev0) hnew hsx rfl hox ?_)
        obtain ⟨w21, hw21, hE21, hb21⟩ := ev_box w20 ev0
        rw [← hw21]
        have hE22 := hE20.keep hb21
        have hbw21 := keepB hb21 hbw20
        obtain ⟨g11, hg11⟩ : ∃ g, g = w20.heap.size := ⟨_, rfl⟩
        rw [← hg11] at hE21 ⊢
        clear hw21 hg11 hnew hsx hox hE20 hbw20 hb21 hz6
        have heq := fun W => eql_ev ev0 W
        unfold evV at heq
        have hbb : (3 == 3) = true := beq_self_eq_true _
        go_wp2_with (first
          | (refine load_evU (by rfl) (.tmp 11) rfl g11 rfl ev0 hE21 ?_)
          | (refine load_evU (by rfl) (.tmp 10) rfl g10 rfl ev0 hE22 ?_))
        refine (num_by 3 _).mono ?_
        rintro en w23 ⟨rfl, rfl⟩
        go_wp2_with fail
        go_ret
        exact ⟨rfl, hbw21⟩
      · have HPb := Lib.hid (show parseE l = if chkE x ≠ 0 then (ev0, chkE x) else (x, 0) from by
          unfold parseE
          rw [HM.out, HXa.out]
          simp only [ne_eq, not_true_eq_false, if_false]
          rw [if_neg (by rw [HL.out]; exact hal)])
        have hd2 : decide (a < n) = false := decide_eq_false hal
        clear hal
        have hck := fun W => evCheckRef_any x W
        obtain ⟨ce, hce⟩ : ∃ ce, ce = chkE x := ⟨_, rfl⟩
        rw [← hce] at hck
        have HCe := Lib.hid hce
        clear hce
        go_wp2_with (refine load_ev (by rfl) (.tmp 10) rfl g10 rfl x hE10 ?_)
        refine (hck _).mono ?_
        rintro en w12 ⟨rfl, hb12⟩
        clear hck hd2
        have hE10 := hE10.keep hb12
        have hbw10 := keepB hb12 hbw10
        by_cases hc0 : ce = 0
        · subst hc0
          have HPa := Lib.hid (show parseE l = (x, 0) from by rw [HPb.out, if_neg (by rw [← HCe.out]; simp)])
          go_upto_region 19 with fail
          have hE19 := hE10
          have hbw19 := hbw10
          obtain ⟨w19, hw19⟩ : ∃ w, w = w12 := ⟨_, rfl⟩
          rw [← hw19] at hE19 hbw19 ⊢
          clear hw19
          have hpa := E.parse A n c l w19 ((HN.out.below hbw19).more hbw19.size) HNC.out.1 HB.out (by have := HNC.out.2; omega) hbw19
          rw [HPa.out] at hpa
          go_wp2_with fail
          refine hpa.mono ?_
          rintro en w20 ⟨rfl, hb20⟩
          clear hpa
          have hE20 := hE19.keep hb20
          have hbw20 := keepB hb20 hbw19
          clear hE19 hbw19 hb20
          have hz6 := ev0_is
          have hnew : (w20.alloc (.cells (evC ev0) 31)).heap[w20.heap.size]? = some (.cells (evC ev0) 31 (0, 0)) := heap_alloc_new _ _
          have hsx := ev_size x
          have hox := evC_one x
          go_upto_region 20 with (refine wpList_store_row rfl 31 (.tmp 11) (.tmp 73) rfl w20.heap.size (evC x) rfl rfl 31 (evC ev0) hnew hsx rfl hox ?_)
          obtain ⟨w21, hw21, hE21, hb21⟩ := ev_box w20 x
          rw [← hw21]
          have hE22 := hE20.keep hb21
          have hbw21 := keepB hb21 hbw20
          obtain ⟨g11, hg11⟩ : ∃ g, g = w20.heap.size := ⟨_, rfl⟩
          rw [← hg11] at hE21 ⊢
          clear hw21 hg11 hnew hsx hox hE20 hbw20 hb21 hz6
          have heq := fun W => eql_ev x W
          unfold evV at heq
          have hbb : (0 == 0) = true := beq_self_eq_true _
          go_wp2_with (first
            | (refine load_evU (by rfl) (.tmp 11) rfl g11 rfl x hE21 ?_)
            | (refine load_evU (by rfl) (.tmp 10) rfl g10 rfl x hE22 ?_))
          refine (num_by 0 _).mono ?_
          rintro en w23 ⟨rfl, rfl⟩
          go_wp2_with fail
          go_ret
          exact ⟨rfl, hbw21⟩
        · have HC0 := Lib.hid hc0
          have HPa := Lib.hid (show parseE l = (ev0, ce) from by rw [HPb.out, if_pos (by rw [← HCe.out]; exact HC0.out), HCe.out])
          have hd3 : (ce != 0) = true := bne_iff_ne.2 hc0
          clear hc0
          obtain ⟨w10, hw10⟩ : ∃ w, w = w12 := ⟨_, rfl⟩
          rw [← hw10] at hE10 hbw10 ⊢
          clear hw10
          have hs0 := ev_size ev0
          have ho0 := evC_one ev0
          have hsz : (evC x).size = (evC ev0).size := rfl
          have hE10' : w10.heap[g10]? = some (.cells (evC x) 31 (0, 0)) := hE10
          go_upto_region 19 with (refine wpList_store_row rfl 31 (.tmp 10) (.tmp 69) rfl g10 (evC ev0) rfl rfl 31 (evC x) hE10' hs0 hsz ho0 ?_)
          have hE19 : EvB (w10.setRow g10 (evC ev0)) g10 ev0 := setRow_heap _ _ _ _ _ _ hE10'
          have hbw19 : Below w.heap.size w (w10.setRow g10 (evC ev0)) := below_setRow hbw10 _ _ HG10.out
          clear hs0 ho0 hsz hE10' hE10 hbw10
          show Code.wp _ _ _ _ (w10.setRow g10 (evC ev0))
          generalize w10.setRow g10 (evC ev0) = w19 at hE19 hbw19 ⊢
          clear hd3
          have hpa := E.parse A n c l w19 ((HN.out.below hbw19).more hbw19.size) HNC.out.1 HB.out (by have := HNC.out.2; omega) hbw19
          rw [HPa.out] at hpa
          go_wp2_with fail
          refine hpa.mono ?_
          rintro en w20 ⟨rfl, hb20⟩
          clear hpa
          have hE20 := hE19.keep hb20
          have hbw20 := keepB hb20 hbw19
          clear hE19 hbw19 hb20
          have hz6 := ev0_is
          have hnew : (w20.alloc (.cells (evC ev0) 31)).heap[w20.heap.size]? = some (.cells (evC ev0) 31 (0, 0)) := heap_alloc_new _ _
          have hsx := ev_size ev0
          have hox := evC_one ev0
          go_upto_region 20 with (refine wpList_store_row rfl 31 (.tmp 11) (.tmp 73) rfl w20.heap.size (evC ev0) rfl rfl 31 (evC ev0) hnew hsx rfl hox ?_)
          obtain ⟨w21, hw21, hE21, hb21⟩ := ev_box w20 ev0
          rw [← hw21]
          have hE22 := hE20.keep hb21
          have hbw21 := keepB hb21 hbw20
          obtain ⟨g11, hg11⟩ : ∃ g, g = w20.heap.size := ⟨_, rfl⟩
          rw [← hg11] at hE21 ⊢
          clear hw21 hg11 hnew hsx hox hE20 hbw20 hb21 hz6
          have heq := fun W => eql_ev ev0 W
          unfold evV at heq
          have hbb : (ce == ce) = true := beq_self_eq_true _
          go_wp2_with (first
            | (refine load_evU (by rfl) (.tmp 11) rfl g11 rfl ev0 hE21 ?_)
            | (refine load_evU (by rfl) (.tmp 10) rfl g10 rfl ev0 hE22 ?_))
          refine (num_by ce _).mono ?_
          rintro en w23 ⟨rfl, rfl⟩
          go_wp2_with fail
          go_ret
          exact ⟨rfl, hbw21⟩
end Go.Proofs.Ythedopnhhanknaa
