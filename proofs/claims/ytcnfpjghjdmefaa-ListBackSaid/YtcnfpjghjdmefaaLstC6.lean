/- Layer 9: the library's AppendSeq and Collect over an iterator; the code's Reversed. -/
import Derived.Test.YtcnfpjghjdmefaaLstC5
namespace Go.Proofs.Ytcnfpjghjdmefaa
open Go.RowKit Go.Shelf Ex
attribute [local go_sem] Oper.semAt_some
set_option maxRecDepth 100000
/-- A list of the call's own lies in a block of numbers: never in one of another type. -/
theorem Own.ne_box {k : IntKind} {e t : TypeId} {w : World} {base n c bx : Nat} {A : Option Addr} {l : List Int} {cs : Array Value} (h : Own k e w base A n c l) (hx : w.heap[bx]? = some (.cells cs t (0, 0))) (ht : t ≠ e) : some bx ≠ (Value.slice A n c).ownBlock := by
  rcases h.2.2 with ⟨hv, _⟩ | ⟨g, cap, cur, hv, _, hg, _⟩
  · rw [hv]; simp [Value.ownBlock]
  · rw [hv]
    intro e1
    simp [Value.ownBlock] at e1
    subst e1
    rw [hx] at hg
    injection hg with hg
    injection hg with _ h2
    exact ht h2
theorem Own.same {k : IntKind} {e : TypeId} {w w' : World} {base n c : Nat} {A : Option Addr} {l : List Int} (h : Own k e w base A n c l) (hs : ∀ (g : Nat) (cur : Array Value), w.heap[g]? = some (.cells cur e (0, 0)) → w'.heap[g]? = some (.cells cur e (0, 0))) : Own k e w' base A n c l := by
  refine ⟨h.1, h.2.1, ?_⟩
  rcases h.2.2 with hv | ⟨g, cap, cur, hv, hb, hg, rest⟩
  · exact .inl hv
  · exact .inr ⟨g, cap, cur, hv, hb, hs g cur hg, rest⟩
theorem Own.cells_ {k : IntKind} {e : TypeId} {w : World} {base n c : Nat} {A : Option Addr} {l : List Int} (h : Own k e w base A n c l) : ∀ (j : Nat) (o : Obj), (Value.slice A n c).ownBlock = some j → w.heap[j]? = some o → o.isCells = true := by
  intro j o hj ho
  rcases h.2.2 with ⟨hv, _⟩ | ⟨g, cap, cur, hv, _, hg, _⟩
  · rw [hv] at hj; simp [Value.ownBlock] at hj
  · rw [hv] at hj
    simp [Value.ownBlock] at hj
    subst hj
    rw [hg] at ho
    injection ho with ho
    rw [← ho]; rfl
/-- Between two rounds: the box holds the list so far. -/
structure Col (w : World) (bx : Nat) (xs : List Int) (k : Nat) (W : World) : Prop where
  ex : ∃ A c, W.heap[bx]? = some (.cells #[.slice A k c] 22 (0, 0)) ∧ Own .i64 3 W w.heap.size A k c (xs.take k)
  b : Below w.heap.size w W
  lo : w.heap.size ≤ bx
theorem Col.grows {w : World} {bx : Nat} {xs : List Int} {k : Nat} : Grows (Col w bx xs k) := by
  rintro A B ⟨⟨A1, c, h1, h2⟩, h3, h4⟩ hb
  exact ⟨⟨A1, c, (hb.block _ (Array.getElem?_eq_some_iff.1 h1).1).trans h1, h2.below hb (Nat.le_refl _)⟩, keepB hb h3, h4⟩
theorem Col.turns {w : World} {bx : Nat} {xs : List Int} {k m : Nat} (hm : w.heap.size ≤ m) : Turns m (Col w bx xs k) := by
  rintro A l o o' hl ⟨⟨A1, c, h1, h2⟩, h3, h4⟩ ho hc
  have ot : ∀ {g : Nat} {cur : Array Value} {t : TypeId}, A.heap[g]? = some (.cells cur t (0, 0)) → (A.putObj l o').heap[g]? = some (.cells cur t (0, 0)) := fun {g cur t} h => by
    refine (World.putObj_heap_other (fun e => ?_)).trans h
    subst e
    rw [ho] at h
    injection h with h
    rw [h] at hc; cases hc
  have hsz : (A.putObj l o').heap.size = A.heap.size := by simp [World.putObj]
  exact ⟨⟨A1, c, ot h1, h2.same fun g cur => ot⟩, ⟨h3.os, h3.tape, h3.output, by rw [hsz]; exact h3.size, fun i hi => (World.putObj_heap_other (by omega)).trans (h3.block i hi)⟩, h4⟩
theorem Col.step {w W W5 : World} {bx : Nat} {xs : List Int} {k c c5 : Nat} {A A5 : Option Addr} (hbx : W.heap[bx]? = some (.cells #[.slice A k c] 22 (0, 0))) (ho : Own .i64 3 W w.heap.size A k c (xs.take k)) (hb : Below w.heap.size w W) (hlo : w.heap.size ≤ bx)
    (ho5 : Own .i64 3 W5 w.heap.size A5 (k + 1) c5 (xs.take (k + 1))) (hg5 : (W.alloc (.cells #[.int .i64 (xs.getD k 0)] 3)).grownBy W5 (Value.slice A k c).ownBlock) :
    W5.heap[bx]? = some (.cells #[.slice A k c] 22 (0, 0)) ∧ KeepsOthers W (W5.setCell ⟨bx, 0, none⟩ (.slice A5 (k + 1) c5)) ∧ Col w bx xs (k + 1) (W5.setCell ⟨bx, 0, none⟩ (.slice A5 (k + 1) c5)) := by
  have hlt : bx < W.heap.size := (Array.getElem?_eq_some_iff.1 hbx).1
  have hoa := ho.alloc (.cells #[.int .i64 (xs.getD k 0)] 3)
  have hbxa : (W.alloc (.cells #[.int .i64 (xs.getD k 0)] 3)).heap[bx]? = some (.cells #[.slice A k c] 22 (0, 0)) := ((below_alloc _).block bx hlt).trans hbx
  have hbx5 : W5.heap[bx]? = some (.cells #[.slice A k c] 22 (0, 0)) := (hg5.block bx (by simp; omega) (hoa.ne_box hbxa (by decide))).trans hbxa
  have hb5 : Below w.heap.size w W5 := hoa.belowGrown (keepB (below_alloc _) hb) (by simp; have := hb.size; omega) hg5
  refine ⟨hbx5, ((KeepsOthers.alloc W _).trans (KeepsOthers.of_grownBy hg5 (hoa.cells_))).trans (KeepsOthers.setCell _ _ _), ⟨A5, c5, heap_setCell_same W5 bx 0 _ _ _ hbx5, ho5.same fun g cur hg => ?_⟩, hb5.setCell hlo _, hlo⟩
  refine (heap_setCell_other W5 ⟨bx, 0, none⟩ g _ (fun e => ?_)).trans hg
  simp at e
  subst e
  rw [hbx5] at hg
  injection hg with hg
  injection hg with _ h2
  exact absurd h2 (by decide)
theorem zip1 (t : Array Value) (p : Nat) (u : Value) : (#[p].zip #[u]).foldl (fun t (p, v) => t.setIfInBounds p v) t = t.setIfInBounds p u := by simp
theorem take_next {xs : List Int} {k : Nat} (hk : k < xs.length) : xs.take (k + 1) = xs.take k ++ [xs.getD k 0] := by
  rw [List.take_succ_eq_append_getElem hk, List.getD_eq_getElem?_getD, List.getElem?_eq_getElem hk]; rfl
/-- AppendSeq at the head of a round's body. -/
def ApM (w : World) (gf : Nat) (lb : Array Value) (xs : List Int) (_l k : Nat) (_cs : Array Value) (a' : Act) (W : World) : Prop :=
  a' = { tmps := #[.slice none 0 0, .func (.func gf) #[] lb, .pointer (some ⟨w.heap.size, 0, none⟩), undef, .slice none 0 0, .int .i64 (xs.getD k 0), .func (.func gf) #[] lb, .int .i64 (xs.getD k 0), undef, undef, undef, undef, undef], defers := [] } ∧ Col w w.heap.size xs k W
set_option linter.unusedSimpArgs false in
set_option maxHeartbeats 1000000 in
theorem appendSeq_any (xs : List Int) (N : Nat) (hN : xs.length = N) (hn : N ≤ 1000000) (w : World) (gf : Nat) (lb : Array Value) (heg : ∀ args w, (callFunc gf args).run Try.prog w = .ok (.enter gf args) w)
    (hH : Hands Fence.wide 5 Try.prog gf lb (fun k _ => #[.int .i64 (xs.getD k 0)]) (fun _ _ _ _ => True) N (fun W => Below w.heap.size w W)) :
    Calls Try.prog 36 #[.slice none 0 0, .func (.func gf) #[] lb] w (OwnQ xs w) := by
  refine (callsIn_wide (n := 6)).1 ?_
  refine callsIn_of_wp_marks Try.func36 rfl trivial ?_ rfl
  simp only [Try.ntmps36, List.size_toArray, List.length_cons, List.length_nil, Nat.reduceAdd, Nat.reduceSub, Array.replicate_succ, Array.replicate_zero, List.push_toArray, List.append_toArray, List.nil_append, List.cons_append]
  have hC0 : Col w w.heap.size xs 0 (w.alloc (.cells #[.slice none 0 0] 22)) := ⟨⟨none, 0, heap_alloc_new _ _, Own.nil _⟩, below_alloc _, Nat.le_refl _⟩
  have hs1 : w.heap.size < (w.alloc (.cells #[.slice none 0 0] 22)).heap.size := by simp
  gi_wp2_with fail
  obtain ⟨w1, hw1⟩ : ∃ w1, w1 = w.alloc (.cells #[.slice none 0 0] 22) := ⟨_, rfl⟩
  rw [← hw1] at hC0 hs1 ⊢
  clear hw1
  refine range_hands (F := Fence.wide) (n := 6) rfl (by omega) (gf := gf) (lb := lb) rfl trivial heg hH (fun _ _ => rfl)
    (fun k W => Col w w.heap.size xs k W) (fun _ _ => False) (ApM w gf lb xs) (fun k => Col.grows) (fun k => Col.turns (Nat.le_of_lt hs1)) (fun _ _ _ h _ => h) (fun _ _ _ _ _ _ h _ _ => h) ?_ (fun k A h => h.b) hC0 ?_ ?_ ?_ ?_
  · rintro l k cs a' A o o' hl ⟨h1, h2⟩ ho hc
    exact ⟨h1, Col.turns (Nat.le_of_lt hs1) A l o o' hl h2 ho hc⟩
  · rintro l k cs W K hl hk hC - hK
    simp only [zip1, List.setIfInBounds_toArray, List.set_cons_succ, List.set_cons_zero]
    gi_wp2_with fail
    exact hK _ _ ⟨rfl, hC⟩ (KeepsOthers.refl _)
  · rintro l k cs a' W hl hk ⟨rfl, hC⟩
    have hk1 : k ≤ 1000000 := by omega
    obtain ⟨⟨A4, c4, hbx4, ho4⟩, hb4, hlo4⟩ := hC
    have cb : W.cell? ⟨w.heap.size, 0, none⟩ = some (.slice A4 k c4) := by rw [cell_of_row W w.heap.size 0 _ _ _ hbx4]; rfl
    obtain ⟨i0, hi, hz0, hz1, hz2⟩ := info_parts info_int
    have hst := take_next (xs := xs) (k := k) (by omega)
    obtain ⟨v, hv⟩ : ∃ v, v = (xs).getD k 0 := ⟨_, rfl⟩
    rw [← hv] at hst ⊢
    have hstep := fun A5 c5 W5 => Col.step (A5 := A5) (c5 := c5) (W5 := W5) hbx4 ho4 hb4 hlo4
    rw [← hv, hst] at hstep
    have hbs := hb4.size
    clear hv
    gi_upto_region 3 with fail
    gi_wp2_with (gi_at_builtin; refine wpListIn_app rfl (.tmp 8) (.tmp 10) _ rfl .i64 w.heap.size 3 i0 _ 8 Try.underlying22 hi hz0 hz1 hz2 rfl A4 k c4 _ rfl (ho4.alloc _) _ (some ⟨W.heap.size, 0, none⟩) 1 1 [v] rfl (Nums.one _ _ _ _) (by omega) (by omega) (by simp; omega) ?_; intro A5 c5 w5 ho5 hg5; obtain ⟨hbx5, hko, hC5⟩ := hstep A5 c5 w5 ho5 hg5; have cb5 : w5.cell? ⟨w.heap.size, 0, none⟩ = some (.slice A4 k c4) := (by rw [cell_of_row w5 w.heap.size 0 _ _ _ hbx5]; rfl); have fb5 := frozen_of_row w5 w.heap.size 0 _ _ hbx5)
    exact ⟨hko, hC5⟩
  · rintro D W hD0 ⟨⟨A4, c4, hbx4, ho4⟩, hb4, -⟩ hD
    have cb : W.cell? ⟨w.heap.size, 0, none⟩ = some (.slice A4 N c4) := by rw [cell_of_row W w.heap.size 0 _ _ _ hbx4]; rfl
    gi_wp2_with fail
    refine ⟨by simp, .inl ⟨D, _, rfl, run_takeDeferred hD, ?_⟩⟩
    simp only [LeavesInM, LeavesIn]
    obtain ⟨⟨A6, c6, hbx6, ho6⟩, hb6, -⟩ := Col.turns (Nat.le_of_lt hs1) W D _ (.deferred none) hD0 (show Col w w.heap.size xs N W from ⟨⟨A4, c4, hbx4, ho4⟩, hb4, Nat.le_refl _⟩) hD rfl
    obtain ⟨rfl, rfl⟩ : A6 = A4 ∧ c6 = c4 := by simpa using hbx6.symm.trans ((World.putObj_heap_other (w := W) (o := .deferred none) (k := w.heap.size) (r := D) (by omega)).trans hbx4)
    rw [List.take_of_length_le (by omega)] at ho6
    exact ⟨.slice A6 N c6, by simp [results, Try.f36, go_sem], A6, N, c6, rfl, ho6, hb6⟩
  · rintro D c W hD0 h
    exact h.elim
theorem collect_any (xs : List Int) (N : Nat) (hN : xs.length = N) (hn : N ≤ 1000000) (w : World) (gf : Nat) (lb : Array Value) (heg : ∀ args w, (callFunc gf args).run Try.prog w = .ok (.enter gf args) w)
    (hH : Hands Fence.wide 5 Try.prog gf lb (fun k _ => #[.int .i64 (xs.getD k 0)]) (fun _ _ _ _ => True) N (fun W => Below w.heap.size w W)) :
    Calls Try.prog 32 #[.func (.func gf) #[] lb] w (OwnQ xs w) := by
  have h := appendSeq_any xs N hN hn w gf lb heg hH
  clear heg hH
  go_enter Try.func32, Try.ntmps32
  go_wp2_with fail
  refine h.mono ?_
  rintro e w1 ⟨A, n, c, rfl, ho, hb⟩
  clear h
  go_wp2_with fail
  go_ret
  exact ⟨A, n, c, rfl, ho, hb⟩
theorem mk_room (n : Nat) (hn : n ≤ 1000000) (W : World) : ∃ W', (Instr.makeSlice 22 (.int .i64 0) (.int .i64 (n : Int))).run Try.prog W = .ok (.slice (some ⟨W.heap.size, 0, none⟩) 0 n) W' ∧
    Own .i64 3 W' W.heap.size (some ⟨W.heap.size, 0, none⟩) 0 n [] ∧ W.grownBy W' none := by
  obtain ⟨i0, hi, hz0, hz1, hz2⟩ := info_parts info_int
  obtain ⟨W', hr, ho, hg⟩ := run_make_own (P := Try.prog) W W.heap.size 22 3 i0 _ 1 Try.underlying22 hi hz0 hz1 .i64 .i64 n (by rw [hz2]; omega) (by unfold maxLen; omega) (Nat.le_refl _)
  exact ⟨W', hr, ⟨rfl, ho⟩, hg⟩
/-- Between two rounds: the list so far, and the iterator's box. -/
def RvI (w : World) (bx bv : Nat) (A : Option Addr) (n c : Nat) (xs : List Int) (k : Nat) (W : World) : Prop := Col w bx xs k W ∧ W.heap[bv]? = some (.cells #[.slice A n c] 22 (0, 0)) ∧ bv ≠ bx
theorem RvI.grows {w : World} {bx bv : Nat} {A : Option Addr} {n c : Nat} {xs : List Int} {k : Nat} : Grows (RvI w bx bv A n c xs k) := fun _ _ h hb => ⟨Col.grows _ _ h.1 hb, (hb.block _ (Array.getElem?_eq_some_iff.1 h.2.1).1).trans h.2.1, h.2.2⟩
theorem RvI.turns {w : World} {bx bv : Nat} {A : Option Addr} {n c : Nat} {xs : List Int} {k m : Nat} (hm : w.heap.size ≤ m) (hv : bv < m) : Turns m (RvI w bx bv A n c xs k) := fun B l o o' hl h ho hc => ⟨Col.turns hm B l o o' hl h.1 ho hc, (World.putObj_heap_other (by omega)).trans h.2.1, h.2.2⟩
/-- Reversed at the head of a round's body. -/
def RvM (w : World) (bx bv : Nat) (A : Option Addr) (n c : Nat) (gf : Nat) (lb : Array Value) (xs : List Int) (_l k : Nat) (_cs : Array Value) (a' : Act) (W : World) : Prop :=
  a' = { tmps := #[.slice A n c, undef, .slice none 0 0, .pointer (some ⟨bx, 0, none⟩), undef, .int .i64 (xs.getD k 0), .slice A n c, .int .i64 (n : Int), .slice (some ⟨w.heap.size, 0, none⟩) 0 n, .slice A n c, .func (.func gf) #[] lb, .int .i64 ((n : Int) - 1 - (k : Int)), .int .i64 (xs.getD k 0), undef, undef, undef, undef, undef], defers := [] } ∧ RvI w bx bv A n c xs k W
theorem zip2 (t : Array Value) (p q : Nat) (u v : Value) : (#[p, q].zip #[u, v]).foldl (fun t (p, v) => t.setIfInBounds p v) t = (t.setIfInBounds p u).setIfInBounds q v := by simp
set_option linter.unusedSimpArgs false in
set_option maxHeartbeats 1000000 in
theorem reversed_code (A : Option Addr) (n c : Nat) (l : List Int) (w : World) (hL : LsIn w A n c l) :
    Calls Try.prog 21 #[.slice A n c] w fun e w' => Below w.heap.size w w' ∧ ∃ A' n' c', e = .returned (.slice A' n' c') ∧ Mine w' w.heap.size A' n' c' l.reverse := by
  have hln := hL.N.len
  have hfew := hL.few
  obtain ⟨xs, hxs⟩ : ∃ xs, xs = l.reverse := ⟨_, rfl⟩
  have hxn : xs.length = n := by rw [hxs]; simpa using hln
  refine (callsIn_wide (n := 6)).1 ?_
  refine callsIn_of_wp_marks Try.func21 rfl trivial ?_ rfl
  simp only [Try.ntmps21, List.size_toArray, List.length_cons, List.length_nil, Nat.reduceAdd, Nat.reduceSub, Array.replicate_succ, Array.replicate_zero, List.push_toArray, List.append_toArray, List.nil_append, List.cons_append]
  obtain ⟨w1, hmk, ho1, hg1⟩ := mk_room n (by omega) w
  have hb1 : Below w.heap.size w w1 := (Below.refl _ _).grown hg1 (Nat.le_refl _) (fun _ e => by cases e)
  gi_upto_region 2 with fail
  have hb2 := keepB (below_alloc (w := w1) (.cells #[.slice (some ⟨w.heap.size, 0, none⟩) 0 n] 22)) hb1
  have hC2 : Col w w1.heap.size xs 0 (w1.alloc (.cells #[.slice (some ⟨w.heap.size, 0, none⟩) 0 n] 22)) := ⟨⟨_, n, heap_alloc_new _ _, ho1.alloc _⟩, hb2, hb1.size⟩
  have hs2 : w1.heap.size < (w1.alloc (.cells #[.slice (some ⟨w.heap.size, 0, none⟩) 0 n] 22)).heap.size := by simp
  obtain ⟨bx, hbx⟩ : ∃ b, b = w1.heap.size := ⟨_, rfl⟩
  have hbxw : w.heap.size ≤ bx := by rw [hbx]; exact hb1.size
  obtain ⟨W2, hW2⟩ : ∃ W, W = w1.alloc (.cells #[.slice (some ⟨w.heap.size, 0, none⟩) 0 n] 22) := ⟨_, rfl⟩
  rw [← hW2] at hb2 hC2 hs2 ⊢
  rw [← hbx] at hC2 hs2 ⊢
  clear hW2 hbx hmk ho1 hg1
  have hba := backward_any A n c l W2 ((hL.N.below hb2).more hb2.size) (by omega)
  rw [← hxs] at hba
  have HX := Lib.hid hxs
  have HL := Lib.hid hL
  clear hxs hL hb1
  gi_wp2_with fail
  refine ⟨trivial, (callsIn_wide.2 hba).mono ?_⟩
  rintro e W3 ⟨hb3, gf, lb, rfl, heg, hH, hS3⟩
  clear hba
  have hlt3 := (Array.getElem?_eq_some_iff.1 hS3.box).1
  have hI3 : RvI w bx W2.heap.size A n c xs 0 W3 := ⟨Col.grows _ _ hC2 hb3, hS3.box, by omega⟩
  have hb23 := keepB hb3 hb2
  have hlo3 := hb23.size
  obtain ⟨bv, hbv⟩ : ∃ b, b = W2.heap.size := ⟨_, rfl⟩
  rw [← hbv] at hI3 hlt3 hH
  clear hbv hS3 hC2 hs2 hb2 hb3
  gi_wp2_with fail
  refine range_hands (F := Fence.wide) (n := 6) rfl (by omega) (gf := gf) (lb := lb) rfl trivial heg hH (fun _ _ => rfl)
    (fun k W => RvI w bx bv A n c xs k W) (fun _ _ => False) (RvM w bx bv A n c gf lb xs) (fun k => RvI.grows) (fun k => RvI.turns hlo3 hlt3) (fun _ _ _ h _ => h) (fun _ _ _ _ _ _ h _ _ => h) ?_ (fun k B h => ⟨h.2.1, (HL.out.N.below h.1.b).more h.1.b.size⟩) hI3 ?_ ?_ ?_ ?_
  · rintro lp k cs a' B o o' hl ⟨h1, h2⟩ ho hc
    exact ⟨h1, RvI.turns hlo3 hlt3 B lp o o' hl h2 ho hc⟩
  · rintro lp k cs W K hl hk hC - hK
    simp only [zip2, List.setIfInBounds_toArray, List.set_cons_succ, List.set_cons_zero]
    gi_wp2_with fail
    exact hK _ _ ⟨rfl, hC⟩ (KeepsOthers.refl _)
  · rintro lp k cs a' W hl hk ⟨rfl, hC, hbv4, hne⟩
    have hk1 : k ≤ 1000000 := by omega
    obtain ⟨⟨A4, c4, hbx4, ho4⟩, hb4, hlo4⟩ := hC
    have cb : W.cell? ⟨bx, 0, none⟩ = some (.slice A4 k c4) := by rw [cell_of_row W bx 0 _ _ _ hbx4]; rfl
    obtain ⟨i0, hi, hz0, hz1, hz2⟩ := info_parts info_int
    have hst := take_next (xs := xs) (k := k) (by omega)
    obtain ⟨v, hv⟩ : ∃ v, v = (xs).getD k 0 := ⟨_, rfl⟩
    rw [← hv] at hst ⊢
    have hstep := fun A5 c5 W5 => Col.step (A5 := A5) (c5 := c5) (W5 := W5) hbx4 ho4 hb4 hlo4
    rw [← hv, hst] at hstep
    have hbs := hb4.size
    clear hv
    gi_upto_region 4 with fail
    have hstep2 : ∀ (A5 : Option Addr) (c5 : Nat) (W5 : World), Own .i64 3 W5 w.heap.size A5 (k + 1) c5 (xs.take k ++ [v]) → (W.alloc (.cells #[.int .i64 v] 3)).grownBy W5 (Value.slice A4 k c4).ownBlock →
        (W5.setCell ⟨bx, 0, none⟩ (.slice A5 (k + 1) c5)).heap[bv]? = some (.cells #[.slice A n c] 22 (0, 0)) := fun A5 c5 W5 _ hg5 => by
      have hlt := (Array.getElem?_eq_some_iff.1 hbv4).1
      have hbva := ((below_alloc (w := W) (.cells #[.int .i64 v] 3)).block bv hlt).trans hbv4
      exact (heap_setCell_other W5 ⟨bx, 0, none⟩ bv _ (by simpa using hne)).trans ((hg5.block bv (by simp; omega) ((ho4.alloc _).ne_box hbva (by decide))).trans hbva)
    gi_wp2_with (gi_at_builtin; refine wpListIn_app rfl (.tmp 13) (.tmp 15) _ rfl .i64 w.heap.size 3 i0 _ 8 Try.underlying22 hi hz0 hz1 hz2 rfl A4 k c4 _ rfl (ho4.alloc _) _ (some ⟨W.heap.size, 0, none⟩) 1 1 [v] rfl (Nums.one _ _ _ _) (by omega) (by omega) (by simp; omega) ?_; intro A5 c5 w5 ho5 hg5; obtain ⟨hbx5, hko, hC5⟩ := hstep A5 c5 w5 ho5 hg5; have hbv5 := hstep2 A5 c5 w5 ho5 hg5; have cb5 : w5.cell? ⟨bx, 0, none⟩ = some (.slice A4 k c4) := (by rw [cell_of_row w5 bx 0 _ _ _ hbx5]; rfl); have fb5 := frozen_of_row w5 bx 0 _ _ hbx5)
    exact ⟨hko, hC5, hbv5, hne⟩
  · rintro D W hD0 ⟨⟨⟨A4, c4, hbx4, ho4⟩, hb4, hlo4⟩, hbv4, hne⟩ hD
    have cb : W.cell? ⟨bx, 0, none⟩ = some (.slice A4 n c4) := by rw [cell_of_row W bx 0 _ _ _ hbx4]; rfl
    gi_wp2_with fail
    refine ⟨by simp, .inl ⟨D, _, rfl, run_takeDeferred hD, ?_⟩⟩
    simp only [LeavesInM, LeavesIn]
    obtain ⟨⟨A6, c6, hbx6, ho6⟩, hb6, -⟩ := Col.turns hlo3 W D _ (.deferred none) hD0 (show Col w bx xs n W from ⟨⟨A4, c4, hbx4, ho4⟩, hb4, hlo4⟩) hD rfl
    have hDx : bx ≠ D := by rintro rfl; rw [hbx4] at hD; simp at hD
    obtain ⟨rfl, rfl⟩ : A6 = A4 ∧ c6 = c4 := by simpa using hbx6.symm.trans ((World.putObj_heap_other (w := W) (o := .deferred none) (k := bx) (r := D) hDx).trans hbx4)
    rw [List.take_of_length_le (by omega), HX.out] at ho6
    exact ⟨.slice A6 n c6, by simp [results, Try.f21, go_sem], hb6, A6, n, c6, rfl, Mine.of_own ho6⟩
  · rintro D c W hD0 h
    exact h.elim
end Go.Proofs.Ytcnfpjghjdmefaa
