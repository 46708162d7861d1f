/- Layer 6: the contract of effect's Take, and all of them together. -/
import Derived.Test.YtjijnapphbeahaaTreeC1
import Derived.Test.YtjijnapphbeahaaTreeC4
import Derived.Test.YtjijnapphbeahaaTreeC5
import Derived.Test.YtjijnapphbeahaaTreeC6
import Derived.Test.YtjijnapphbeahaaTreeC7
import Derived.Test.YtjijnapphbeahaaTreeC9
import Derived.Lib.BufferMore
namespace Go.Proofs.Ytjijnapphbeahaa
open Go.RowKit Ex Wx
theorem Own.setRow {k : IntKind} {e : TypeId} {w : World} {base n c : Nat} {A : Option Addr} {l : List Int} (h : Own k e w base A n c l) {g : Nat} (hg : g < base) (cs : Array Value) : Own k e (w.setRow g cs) base A n c l := by
  refine ⟨h.1, h.2.1, ?_⟩
  rcases h.2.2 with hv | ⟨g', cap, cur, hv, hbs, hg', rest⟩
  · exact .inl hv
  · exact .inr ⟨g', cap, cur, hv, hbs, (setRow_other w g g' cs (by omega)).trans hg', rest⟩
set_option maxRecDepth 100000 in
theorem clone_any (A : Option Addr) (n c : Nat) (l : List Int) (w : World) (B : Nat) (hN : Nums .u8 w B A n l) (hB : B ≤ w.heap.size) (hn : n ≤ 100000000) :
    Calls Try.prog 32 #[.slice A n c] w (MadeB .u8 5 w w.heap.size l) := by
  obtain ⟨i0, hi, hz0, hz1, hz2⟩ := info_parts info_u8
  cases A with
  | none =>
    obtain rfl : l = [] := by
      cases l with
      | nil => rfl
      | cons x r => obtain ⟨a, e, _⟩ := hN.2 0 x (by simp); cases e
    have q := fun W => Go.Lib.run_eql_slice_nil_nil (P := Try.prog) W n c (Try.underlying37)
    go_enter Try.func32, Try.ntmps32
    go_wp2_with fail
    go_ret
    exact ⟨none, 0, 0, rfl, Own.nil _, Below.refl _ _⟩
  | some a0 =>
    have HN := Lib.hid hN
    clear hN
    have hb1 : Below w.heap.size w (w.alloc (.cells #[] 5)) := (Below.refl _ _).alloc (Nat.le_refl _) _
    have q := fun W => Go.Lib.run_eql_slice_some_nil (P := Try.prog) W a0 n c (Try.underlying37)
    have ho := own_empty (k := .u8) (e := 5) w w.heap.size (Nat.le_refl _)
    go_enter Try.func32, Try.ntmps32
    go_upto_region 3 with fail
    go_wp2_with (at_builtin; refine wpList_app rfl (.tmp 5) (.tmp 6) _ rfl .u8 w.heap.size 5 i0 _ 1 Try.underlying37 hi hz0 hz1 hz2 rfl (some ⟨w.heap.size, 0, none⟩) 0 0 [] rfl ho B (some a0) n c l rfl (HN.out.belowL hb1 hB) (by omega) (by omega) (by simp) ?_; intro A3 c3 w2 hown3 hg3)
    have hb2 := ho.belowGrown hb1 (by simp) hg3
    go_ret
    rw [List.nil_append] at hown3
    exact ⟨A3, n, c3, by simp, by simpa using hown3, hb2⟩
set_option linter.unusedSimpArgs false in
set_option maxRecDepth 100000 in
set_option maxHeartbeats 2000000 in
theorem takeTop_any (A : Option Addr) (n c : Nat) (l : List Int) (w : World) (B : Nat) (hN : Nums .u8 w B A n l) (hby : byB l) (hnc : n ≤ c) (hn : n ≤ 100000) (hB : B ≤ w.heap.size) :
    Calls Try.prog 17 #[.slice A n c] w (TakePost l w) := by
  have hln := hN.len
  have hrg := tkT_range 8 l hby
  have HN := Lib.hid hN
  have HBy := Lib.hid hby
  clear hN hby
  go_enter Try.func17, Try.ntmps17
  go_upto_region 1 with fail
  obtain ⟨w1, hw1⟩ : ∃ w1, w1 = w.alloc (.cells zeroE 24) := ⟨_, rfl⟩
  have hz1 : EvAt w1 w.heap.size zeroE := by rw [hw1]; exact EvAt.new _ _
  have hb1 : Below w.heap.size w w1 := by rw [hw1]; exact (Below.refl _ _).alloc (Nat.le_refl _) _
  rw [← hw1]
  clear hw1
  have hcall := takeC_any 8 1 (by omega) A n c l w1 B 0 (HN.out.belowL hb1 hB) HBy.out hnc hn (Nat.zero_le _) (by have := hb1.size; omega)
  rw [List.drop_zero, show ((0 : Nat) : Int) = 0 from rfl, show ((1 : Nat) : Int) = 1 from rfl] at hcall
  unfold TakeCPost at hcall
  obtain ⟨t, ht⟩ : ∃ x, x = (tkT 8 l).1 := ⟨_, rfl⟩
  obtain ⟨k, hk⟩ : ∃ x, x = (tkT 8 l).2.1 := ⟨_, rfl⟩
  obtain ⟨e0, he0⟩ : ∃ x, x = (tkT 8 l).2.2 := ⟨_, rfl⟩
  unfold TakePost
  rw [← ht] at hcall hrg
  rw [← hk, Nat.zero_add] at hcall
  rw [← hk] at hrg
  rw [← he0] at hcall hrg
  have HT := Lib.hid ht
  have HK := Lib.hid hk
  have HE0 := Lib.hid he0
  clear ht hk he0
  by_cases he : e0 = 0
  · subst he
    have hkl : k ≤ n := by
      rcases hrg with ⟨h, _⟩ | ⟨_, _, h⟩
      · exact absurd rfl h
      · omega
    simp only [if_true, errV_nil] at hcall
    clear hrg
    go_wp2_with fail
    refine hcall.mono ?_
    rintro e w5 ⟨cs5, rfl, hr5, hb5⟩
    have hs5 := hr5.size
    have hsx5 : (Try.prog.info? 24).map (·.size) = some cs5.size := by rw [hs5]; exact size5
    have h15 : cs5.all (·.oneCell') = true := by obtain ⟨_, _, e⟩ := hr5.shape; rw [e]; exact ev_one _ _ _ _ _ _ _
    have hnew : (w5.alloc (.cells zeroE 24)).heap[w5.heap.size]? = some (.cells zeroE 24 (0, 0)) := heap_alloc_new _ _
    clear hcall
    go_upto_region 2 with (refine wpList_store_row rfl 24 (.tmp 5) (.tmp 11) rfl w5.heap.size _ rfl rfl 24 zeroE hnew hsx5 (by rw [hs5]; rfl) h15 ?_)
    obtain ⟨w6, hw6, hX6, hb6⟩ := ev_box w5 (xs := cs5)
    rw [← hw6]
    clear hw6 hnew
    have hz6 := (hz1.keep hb5).keep hb6
    have hbw6 := keepB hb6 (keepB hb5 hb1)
    have hr6 := hr5.keep (Q' := fun b => w1.heap.size ≤ b ∧ b < w5.heap.size) (fun b hq => hb6.block b hq.2) (fun _ hq => hq)
    have hw5 : w.heap.size < w5.heap.size := (hz1.keep hb5).lt
    have hw56 := hb6.size
    have hw1g := hz1.lt
    obtain ⟨g5, hg5⟩ : ∃ g, g = w5.heap.size := ⟨_, rfl⟩
    rw [← hg5] at hX6 hr6 hw5 hw56 ⊢
    obtain ⟨A1, hsl, hN1⟩ := cut_from (P := Try.prog) (HN.out.belowL hbw6 hB) hnc (i := k) hkl 37 (by kernel_rfl) (fun _ => by kernel_rfl)
    have hcl := fun W (hW : Below w6.heap.size w6 W) => clone_any A1 (n - k) (c - k) (l.drop k) W B (hN1.belowL hW (by have := hbw6.size; omega)) (by have := hbw6.size; have := hW.size; omega) (by omega)
    clear hb5 hb6 hr5 hg5
    go_upto_region 4 with fail
    refine wp_region_held_drew (S := fun W => EvAt W g5 cs5) (by kernel_rfl) (hX6.keep (Below.refl _ _).drew) (fun hHeld => ?_)
    have hb0 : Below w6.heap.size w6 w6.drew := (Below.refl _ _).drew
    generalize w6.drew = W0 at hHeld hb0 ⊢
    refine wpAnyH_take (i := 0) (v := .agg cs5) rfl (by kernel_rfl) (by kernel_rfl) (by kernel_rfl) (fun _ _ _ h => h) (yieldsEv (by rfl) (.tmp 5) rfl g5 rfl cs5 (fun W hW => hW) hsx5) hHeld ?_
    simp only [Act.put, List.getElem_toArray, List.getElem_cons_zero, List.getElem_cons_succ, List.setIfInBounds_toArray, List.set_cons_zero, List.set_cons_succ]
    refine wpAnyH_take (i := 1) (v := ?_) rfl (by kernel_rfl) (by kernel_rfl) (by kernel_rfl) (fun _ _ _ h => h) (Or.inl ⟨by rfl, ?_⟩) hHeld ?_
    rotate_left
    · (intro w hSw; go_simp; (try with_reducible rfl))
    simp only [Act.put, List.getElem_toArray, List.getElem_cons_zero, List.getElem_cons_succ, List.setIfInBounds_toArray, List.set_cons_zero, List.set_cons_succ]
    refine wpAnyH_take (i := 2) (v := ?_) rfl (by kernel_rfl) (by kernel_rfl) (by kernel_rfl) (fun _ _ _ h => h) (Or.inl ⟨by rfl, ?_⟩) hHeld ?_
    rotate_left
    · (intro w hSw; go_simp; (try with_reducible rfl))
    simp only [Act.put, List.getElem_toArray, List.getElem_cons_zero, List.getElem_cons_succ, List.setIfInBounds_toArray, List.set_cons_zero, List.set_cons_succ]
    refine wpAnyH_take (i := 3) (v := ?_) rfl (by kernel_rfl) (by kernel_rfl) (by kernel_rfl) (fun _ _ _ h => h) (Or.inl ⟨by rfl, ?_⟩) hHeld ?_
    rotate_left
    · (intro w hSw; go_simp; (try with_reducible rfl))
    simp only [Act.put, List.getElem_toArray, List.getElem_cons_zero, List.getElem_cons_succ, List.setIfInBounds_toArray, List.set_cons_zero, List.set_cons_succ]
    refine wpAnyH_ready (rs := [4]) (by kernel_rfl) (by simp) ?_
    refine AllReadyH.cons rfl (fun K hK => ?_) AllReadyH.nil
    simp only [List.getElem_toArray, List.getElem_cons_zero, List.getElem_cons_succ]
    go_simp
    refine (hcl _ hb0).mono ?_
    rintro e w7 ⟨A7, m7, c7, rfl, hO7, hb7⟩
    have hm7 := hO7.cap
    have hH7 := EvAt.keep hHeld hb7
    have hz7 := (hz6.keep hb0).keep hb7
    have hbw7 := keepB hb7 (keepB hb0 hbw6)
    go_wp2_with fail
    refine hK.out _ _ hH7 (fun _ => ?_)
    clear hK K
    try simp only [Act.put, List.setIfInBounds_toArray, List.set_cons_zero, List.set_cons_succ]
    refine wpAnyH_ready (rs := [5]) (by kernel_rfl) (by simp) ?_
    refine AllReadyH.cons rfl (fun K hK => ?_) AllReadyH.nil
    simp only [List.getElem_toArray, List.getElem_cons_zero, List.getElem_cons_succ]
    refine wp_store_row 24 (.tmp 2) (.tmp 18) rfl w.heap.size cs5 rfl rfl 24 zeroE hz7 hsx5 (by rw [hs5]; rfl) h15 ?_
    have hH8 : EvAt (w7.setRow w.heap.size cs5) g5 cs5 := (setRow_other w7 _ _ _ (by omega)).trans hH7
    refine hK.out _ _ hH8 (fun _ => ?_)
    clear hK K
    try simp only [Act.put, List.setIfInBounds_toArray, List.set_cons_zero, List.set_cons_succ]
    replace hHeld := hH8
    refine wpAnyH_take (i := 6) (v := ?_) rfl (by kernel_rfl) (by kernel_rfl) (by kernel_rfl) (fun _ _ _ h => h) (Or.inl ⟨by rfl, ?_⟩) hHeld ?_
    rotate_left
    · (intro w hSw; go_simp; (try with_reducible rfl))
    simp only [Act.put, List.getElem_toArray, List.getElem_cons_zero, List.getElem_cons_succ, List.setIfInBounds_toArray, List.set_cons_zero, List.set_cons_succ]
    refine wpAnyH_take (i := 7) (v := ?_) rfl (by kernel_rfl) (by kernel_rfl) (by kernel_rfl) (fun _ _ _ h => h) (Or.inl ⟨by rfl, ?_⟩) hHeld ?_
    rotate_left
    · (intro w hSw; go_simp; (try with_reducible rfl))
    simp only [Act.put, List.getElem_toArray, List.getElem_cons_zero, List.getElem_cons_succ, List.setIfInBounds_toArray, List.set_cons_zero, List.set_cons_succ]
    refine wpAnyH_done (by kernel_rfl) ?_ _
    have hR8 : Reads (w7.setRow w.heap.size cs5).heap.size (w7.setRow w.heap.size cs5) 9 cs5 t := by
      have h7 := (hr6.keep (Q' := fun b => w1.heap.size ≤ b ∧ b < g5) (fun b hq => (hb7.block b (by have := hb0.size; have := hq.2; omega)).trans (hb0.block b (by have := hq.2; omega))) (fun _ hq => hq)).keep (w' := w7.setRow w.heap.size cs5) (Q' := fun b => b < (w7.setRow w.heap.size cs5).heap.size) (fun b hq => setRow_other w7 _ b _ (by have := hq.1; omega)) (fun b hq => by have := hb7.size; have := hb0.size; have := hq.2; simp; omega)
      exact h7.reads (fun _ h => h)
    have hN8 : Nums .u8 (w7.setRow w.heap.size cs5) (w7.setRow w.heap.size cs5).heap.size A7 m7 (l.drop k) := (hO7.setRow (g := w.heap.size) (by have := hb0.size; omega) cs5).nums
    go_wp2_with fail
    refine bodyPost_ret (v := .tuple #[.agg cs5, .slice A7 m7 c7, .nilIface]) ?_ rfl ⟨9, cs5, A7, m7, c7, by rw [← HE0.out, errV_nil], by rw [← HT.out]; exact hR8, by rw [← HE0.out, ← HK.out, if_pos rfl]; exact hN8, hm7, below_setRow hbw7 _ _ (Nat.le_refl _)⟩
    exact results_cell_two (ty := 24) (p := 2) (q := 3) (r := 4) (by kernel_rfl) _ _ w.heap.size 24 _ (0, 0) _ rfl (setRow_heap _ _ _ _ _ _ hz7) Try.underlying24 rfl hsx5
  · have HE := Lib.hid he
    simp only [if_neg he, errV_err he] at hcall
    have hzt : t = zT := by
      rcases hrg with ⟨_, h, _⟩ | ⟨h, _⟩
      · exact h
      · exact absurd h he
    clear hrg he
    go_wp2_with fail
    refine hcall.mono ?_
    rintro e w5 ⟨cs5, rfl, hr5, hb5⟩
    have hs5 := hr5.size
    have hsx5 : (Try.prog.info? 24).map (·.size) = some cs5.size := by rw [hs5]; exact size5
    have h15 : cs5.all (·.oneCell') = true := by obtain ⟨_, _, e⟩ := hr5.shape; rw [e]; exact ev_one _ _ _ _ _ _ _
    have hnew : (w5.alloc (.cells zeroE 24)).heap[w5.heap.size]? = some (.cells zeroE 24 (0, 0)) := heap_alloc_new _ _
    clear hcall
    go_upto_region 2 with (refine wpList_store_row rfl 24 (.tmp 5) (.tmp 11) rfl w5.heap.size _ rfl rfl 24 zeroE hnew hsx5 (by rw [hs5]; rfl) h15 ?_)
    obtain ⟨w6, hw6, hX6, hb6⟩ := ev_box w5 (xs := cs5)
    rw [← hw6]
    clear hw6 hnew hX6
    have hz6 := (hz1.keep hb5).keep hb6
    have hbw6 := keepB hb6 (keepB hb5 hb1)
    clear hb5 hb6 hr5
    go_upto_region 3 with fail
    go_wp2_with (refine wpList_store_row rfl 24 (.tmp 2) (.tmp 16) rfl w.heap.size _ rfl rfl 24 zeroE hz6 size5 rfl zero_one ?_)
    refine bodyPost_ret (v := .tuple #[.agg zeroE, .slice none 0 0, .iface 51 (.int .i64 e0)]) ?_ rfl ⟨1, zeroE, none, 0, 0, by rw [← HE0.out, errV_err HE.out], by rw [← HT.out, hzt]; exact (zero_reads (fun b => b < (w6.setRow w.heap.size zeroE).heap.size) _ 0).reads (fun _ h => h), by rw [← HE0.out, if_neg HE.out]; exact Nums.none_, Nat.le_refl _, below_setRow hbw6 _ _ (Nat.le_refl _)⟩
    exact results_cell_two (ty := 24) (p := 2) (q := 3) (r := 4) (by kernel_rfl) _ _ w.heap.size 24 _ (0, 0) _ rfl (setRow_heap _ _ _ _ _ _ hz6) Try.underlying24 rfl size5
end Go.Proofs.Ytjijnapphbeahaa
