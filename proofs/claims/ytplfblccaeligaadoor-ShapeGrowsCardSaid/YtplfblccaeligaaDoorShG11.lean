/- Layer 8: table's cards that follow no rule. Layer 8: table's Beasts: their abilities. Layer 8: table's Beasts. Layer 8: table's card of any number. Layer 8: table's Card. -/
import Derived.Test.YtplfblccaeligaaDoorShG10
import Derived.Test.YtplfblccaeligaaDoorCq
import Derived.Test.YtplfblccaeligaaDoorTblIs
import Derived.Test.YtplfblccaeligaaDoorErr
namespace Go.Proofs.YtplfblccaeligaaDoor
open Go.RowKit Ex Mx
set_option maxRecDepth 100000
theorem wide_any {j : Nat} {x : Int} (h : In64 x) : Wide (updI noC j x) := fun i _ => by
  unfold updI noC
  split
  · exact h
  · simp
/-- What a call that makes a card answers: it reads as c in blocks of the call's own. -/
def CardR (c : CardT) (w : World) (e : Ending) (w' : World) : Prop := ∃ cs, e = .returned (.agg cs) ∧ ReadsCQ (fun b => w.heap.size ≤ b ∧ b < w'.heap.size) w' 2 cs c ∧ Below w.heap.size w w'
theorem card_end {fn : Func} {w W : World} {ac : Act} {p : Tmp} {cs : Array Value} {c c' : CardT} (hf : fn.results = #[.cell p 55]) (hp : ac.tmps.getD p undef = .pointer (some ⟨w.heap.size, 0, none⟩)) (hd : ac.defers = []) {l : List (Array Value × ET)} (h : EAcc w zeroD 55 W l)
    (hr : ReadsCQ (fun b => w.heap.size + 1 ≤ b ∧ b < W.heap.size) W 2 cs c') (hc : c' = c) : bodyPost Tryd.prog fn (CardR c w) .ret ac (W.setRow w.heap.size cs) := by
  subst hc
  refine bodyPost_ret (v := .agg cs) ?_ hd ⟨cs, rfl, hr.keep (fun b hq => setRow_other _ _ _ _ (by omega)) (fun b hq => ⟨by omega, by rw [setRow_size]; exact hq.2⟩), below_setRow h.b _ _ (Nat.le_refl _)⟩
  exact results_cell_one hf _ _ w.heap.size 55 _ (0, 0) _ hp (setRow_heap _ _ _ _ _ _ h.z) Tryd.underlying55 rfl (cq_info hr)
theorem single_100 (w : World) : Calls Tryd.prog 72 #[.int .i64 100] w (CardR (tblC 100) w) := by
  go_enter Tryd.func72, Tryd.ntmps72
  go_upto_region 1 with fail
  obtain ⟨w0, hw⟩ : ∃ W, W = w.alloc (.cells zeroD 55) := ⟨_, rfl⟩
  have hacc : EAcc w zeroD 55 w0 [] := by rw [hw]; exact ⟨(Below.refl _ _).alloc (Nat.le_refl _) _, heap_alloc_new _ _, by simp⟩
  rw [← hw]
  clear hw
  go_wp2_with (first
    | (go_at_call 64; refine (mk_effect _ _ _ _ _).mono ?_; rintro e w' ⟨rfl, hb'⟩; replace hacc := hacc.step hb'; clear hb')
    | (go_at_call 75; refine (mk_spell _ _ _ _ _ _ _ _ _).mono ?_; rintro e w' ⟨rfl, hb'⟩; replace hacc := hacc.step hb'; clear hb')
    | (go_at_call 63; refine (mk_at _ _ _ _ _ _ _ _ _).mono ?_; rintro e w' ⟨rfl, hb'⟩; replace hacc := hacc.step hb'; clear hb')
    | (go_at_call 68; refine (mk_price 5 _ _ _ (by decide) (by decide) (by decide) (by decide) (by decide)).mono ?_; rintro e w' ⟨rfl, hb'⟩; replace hacc := hacc.step hb'; clear hb')
    | (go_at_call 76; refine (mk_all _ _ _ _ _ ⟨by decide, by decide⟩ ⟨by decide, by decide⟩ ⟨by decide, by decide⟩ ⟨by decide, by decide⟩).mono ?_; rintro e w' ⟨A', c', rfl, hr', hb'⟩; replace hacc := hacc.snoc hb' hr'; clear hb' hr'))
  refine (mk_magic _ _ _ ⟨0, noC, false, 0, .node 18 0 0 0 []⟩ _ (w.heap.size + 1) _ hacc.lt ⟨by decide, by decide⟩ (by rw [price_any]; exact wide_any ⟨by decide, by decide⟩) (flatSp (a := ⟨0, noC, false, 0, .node 18 0 0 0 []⟩) _ _ _ _ _ _ _ _ ⟨by decide, by decide⟩ wide_no ⟨by decide, by decide⟩ ⟨by decide, by decide⟩ ⟨by decide, by decide⟩ ⟨by decide, by decide⟩ ⟨by decide, by decide⟩ rfl)).mono ?_
  rintro e w9 ⟨cs, rfl, hr, hb9⟩
  replace hacc := hacc.step hb9
  have hsx := cq_info hr
  have hcs := cq_size hr
  have h1 := cq_one hr
  go_wp2_with (refine wpList_store_row rfl 55 _ _ rfl w.heap.size cs rfl rfl 55 zeroD hacc.z hsx (by rw [hcs]; rfl) h1 ?_)
  exact card_end (p := 2) (by kernel_rfl) rfl rfl hacc hr (show (⟨2, 5, false, priceF 5 1 0, 0, 0, 0, [⟨0, noC, false, 0, .node 18 0 0 0 []⟩]⟩ : CardT) = _ by rw [price_any]; rfl)
theorem single_101 (w : World) : Calls Tryd.prog 72 #[.int .i64 101] w (CardR (tblC 101) w) := by
  go_enter Tryd.func72, Tryd.ntmps72
  go_upto_region 1 with fail
  obtain ⟨w0, hw⟩ : ∃ W, W = w.alloc (.cells zeroD 55) := ⟨_, rfl⟩
  have hacc : EAcc w zeroD 55 w0 [] := by rw [hw]; exact ⟨(Below.refl _ _).alloc (Nat.le_refl _) _, heap_alloc_new _ _, by simp⟩
  rw [← hw]
  clear hw
  go_wp2_with (first
    | (go_at_call 64; refine (mk_effect _ _ _ _ _).mono ?_; rintro e w' ⟨rfl, hb'⟩; replace hacc := hacc.step hb'; clear hb')
    | (go_at_call 75; refine (mk_spell _ _ _ _ _ _ _ _ _).mono ?_; rintro e w' ⟨rfl, hb'⟩; replace hacc := hacc.step hb'; clear hb')
    | (go_at_call 63; refine (mk_at _ _ _ _ _ _ _ _ _).mono ?_; rintro e w' ⟨rfl, hb'⟩; replace hacc := hacc.step hb'; clear hb')
    | (go_at_call 68; refine (mk_price 5 _ _ _ (by decide) (by decide) (by decide) (by decide) (by decide)).mono ?_; rintro e w' ⟨rfl, hb'⟩; replace hacc := hacc.step hb'; clear hb')
    | (go_at_call 76; refine (mk_all _ _ _ _ _ ⟨by decide, by decide⟩ ⟨by decide, by decide⟩ ⟨by decide, by decide⟩ ⟨by decide, by decide⟩).mono ?_; rintro e w' ⟨A', c', rfl, hr', hb'⟩; replace hacc := hacc.snoc hb' hr'; clear hb' hr'))
  refine (mk_magic _ _ _ ⟨0, noC, false, 0, .node 19 2 0 1 []⟩ _ (w.heap.size + 1) _ hacc.lt ⟨by decide, by decide⟩ (by rw [price_any]; exact wide_any ⟨by decide, by decide⟩) (flatSp (a := ⟨0, noC, false, 0, .node 19 2 0 1 []⟩) _ _ _ _ _ _ _ _ ⟨by decide, by decide⟩ wide_no ⟨by decide, by decide⟩ ⟨by decide, by decide⟩ ⟨by decide, by decide⟩ ⟨by decide, by decide⟩ ⟨by decide, by decide⟩ rfl)).mono ?_
  rintro e w9 ⟨cs, rfl, hr, hb9⟩
  replace hacc := hacc.step hb9
  have hsx := cq_info hr
  have hcs := cq_size hr
  have h1 := cq_one hr
  go_wp2_with (refine wpList_store_row rfl 55 _ _ rfl w.heap.size cs rfl rfl 55 zeroD hacc.z hsx (by rw [hcs]; rfl) h1 ?_)
  exact card_end (p := 2) (by kernel_rfl) rfl rfl hacc hr (show (⟨2, 5, false, priceF 5 2 0, 0, 0, 0, [⟨0, noC, false, 0, .node 19 2 0 1 []⟩]⟩ : CardT) = _ by rw [price_any]; rfl)
theorem single_102 (w : World) : Calls Tryd.prog 72 #[.int .i64 102] w (CardR (tblC 102) w) := by
  go_enter Tryd.func72, Tryd.ntmps72
  go_upto_region 1 with fail
  obtain ⟨w0, hw⟩ : ∃ W, W = w.alloc (.cells zeroD 55) := ⟨_, rfl⟩
  have hacc : EAcc w zeroD 55 w0 [] := by rw [hw]; exact ⟨(Below.refl _ _).alloc (Nat.le_refl _) _, heap_alloc_new _ _, by simp⟩
  rw [← hw]
  clear hw
  go_wp2_with (first
    | (go_at_call 64; refine (mk_effect _ _ _ _ _).mono ?_; rintro e w' ⟨rfl, hb'⟩; replace hacc := hacc.step hb'; clear hb')
    | (go_at_call 75; refine (mk_spell _ _ _ _ _ _ _ _ _).mono ?_; rintro e w' ⟨rfl, hb'⟩; replace hacc := hacc.step hb'; clear hb')
    | (go_at_call 63; refine (mk_at _ _ _ _ _ _ _ _ _).mono ?_; rintro e w' ⟨rfl, hb'⟩; replace hacc := hacc.step hb'; clear hb')
    | (go_at_call 68; refine (mk_price 5 _ _ _ (by decide) (by decide) (by decide) (by decide) (by decide)).mono ?_; rintro e w' ⟨rfl, hb'⟩; replace hacc := hacc.step hb'; clear hb')
    | (go_at_call 76; refine (mk_all _ _ _ _ _ ⟨by decide, by decide⟩ ⟨by decide, by decide⟩ ⟨by decide, by decide⟩ ⟨by decide, by decide⟩).mono ?_; rintro e w' ⟨A', c', rfl, hr', hb'⟩; replace hacc := hacc.snoc hb' hr'; clear hb' hr'))
  refine (mk_magic _ _ _ ⟨0, noC, false, 0, .node 16 3 0 1 []⟩ _ (w.heap.size + 1) _ hacc.lt ⟨by decide, by decide⟩ (by rw [price_any]; exact wide_any ⟨by decide, by decide⟩) (flatSp (a := ⟨0, noC, false, 0, .node 16 3 0 1 []⟩) _ _ _ _ _ _ _ _ ⟨by decide, by decide⟩ wide_no ⟨by decide, by decide⟩ ⟨by decide, by decide⟩ ⟨by decide, by decide⟩ ⟨by decide, by decide⟩ ⟨by decide, by decide⟩ rfl)).mono ?_
  rintro e w9 ⟨cs, rfl, hr, hb9⟩
  replace hacc := hacc.step hb9
  have hsx := cq_info hr
  have hcs := cq_size hr
  have h1 := cq_one hr
  go_wp2_with (refine wpList_store_row rfl 55 _ _ rfl w.heap.size cs rfl rfl 55 zeroD hacc.z hsx (by rw [hcs]; rfl) h1 ?_)
  exact card_end (p := 2) (by kernel_rfl) rfl rfl hacc hr (show (⟨2, 5, false, priceF 5 1 0, 0, 0, 0, [⟨0, noC, false, 0, .node 16 3 0 1 []⟩]⟩ : CardT) = _ by rw [price_any]; rfl)
theorem single_103 (w : World) : Calls Tryd.prog 72 #[.int .i64 103] w (CardR (tblC 103) w) := by
  go_enter Tryd.func72, Tryd.ntmps72
  go_upto_region 1 with fail
  obtain ⟨w0, hw⟩ : ∃ W, W = w.alloc (.cells zeroD 55) := ⟨_, rfl⟩
  have hacc : EAcc w zeroD 55 w0 [] := by rw [hw]; exact ⟨(Below.refl _ _).alloc (Nat.le_refl _) _, heap_alloc_new _ _, by simp⟩
  rw [← hw]
  clear hw
  go_wp2_with (first
    | (go_at_call 64; refine (mk_effect _ _ _ _ _).mono ?_; rintro e w' ⟨rfl, hb'⟩; replace hacc := hacc.step hb'; clear hb')
    | (go_at_call 75; refine (mk_spell _ _ _ _ _ _ _ _ _).mono ?_; rintro e w' ⟨rfl, hb'⟩; replace hacc := hacc.step hb'; clear hb')
    | (go_at_call 63; refine (mk_at _ _ _ _ _ _ _ _ _).mono ?_; rintro e w' ⟨rfl, hb'⟩; replace hacc := hacc.step hb'; clear hb')
    | (go_at_call 68; refine (mk_price 5 _ _ _ (by decide) (by decide) (by decide) (by decide) (by decide)).mono ?_; rintro e w' ⟨rfl, hb'⟩; replace hacc := hacc.step hb'; clear hb')
    | (go_at_call 76; refine (mk_all _ _ _ _ _ ⟨by decide, by decide⟩ ⟨by decide, by decide⟩ ⟨by decide, by decide⟩ ⟨by decide, by decide⟩).mono ?_; rintro e w' ⟨A', c', rfl, hr', hb'⟩; replace hacc := hacc.snoc hb' hr'; clear hb' hr'))
  refine (mk_magic _ _ _ ⟨0, noC, false, 0, .node 17 2 0 1 []⟩ _ (w.heap.size + 1) _ hacc.lt ⟨by decide, by decide⟩ (by rw [price_any]; exact wide_any ⟨by decide, by decide⟩) (flatSp (a := ⟨0, noC, false, 0, .node 17 2 0 1 []⟩) _ _ _ _ _ _ _ _ ⟨by decide, by decide⟩ wide_no ⟨by decide, by decide⟩ ⟨by decide, by decide⟩ ⟨by decide, by decide⟩ ⟨by decide, by decide⟩ ⟨by decide, by decide⟩ rfl)).mono ?_
  rintro e w9 ⟨cs, rfl, hr, hb9⟩
  replace hacc := hacc.step hb9
  have hsx := cq_info hr
  have hcs := cq_size hr
  have h1 := cq_one hr
  go_wp2_with (refine wpList_store_row rfl 55 _ _ rfl w.heap.size cs rfl rfl 55 zeroD hacc.z hsx (by rw [hcs]; rfl) h1 ?_)
  exact card_end (p := 2) (by kernel_rfl) rfl rfl hacc hr (show (⟨2, 5, true, priceF 5 1 0, 0, 0, 0, [⟨0, noC, false, 0, .node 17 2 0 1 []⟩]⟩ : CardT) = _ by rw [price_any]; rfl)
theorem single_104 (w : World) : Calls Tryd.prog 72 #[.int .i64 104] w (CardR (tblC 104) w) := by
  go_enter Tryd.func72, Tryd.ntmps72
  go_upto_region 1 with fail
  obtain ⟨w0, hw⟩ : ∃ W, W = w.alloc (.cells zeroD 55) := ⟨_, rfl⟩
  have hacc : EAcc w zeroD 55 w0 [] := by rw [hw]; exact ⟨(Below.refl _ _).alloc (Nat.le_refl _) _, heap_alloc_new _ _, by simp⟩
  rw [← hw]
  clear hw
  go_wp2_with (first
    | (go_at_call 64; refine (mk_effect _ _ _ _ _).mono ?_; rintro e w' ⟨rfl, hb'⟩; replace hacc := hacc.step hb'; clear hb')
    | (go_at_call 75; refine (mk_spell _ _ _ _ _ _ _ _ _).mono ?_; rintro e w' ⟨rfl, hb'⟩; replace hacc := hacc.step hb'; clear hb')
    | (go_at_call 63; refine (mk_at _ _ _ _ _ _ _ _ _).mono ?_; rintro e w' ⟨rfl, hb'⟩; replace hacc := hacc.step hb'; clear hb')
    | (go_at_call 68; refine (mk_price 5 _ _ _ (by decide) (by decide) (by decide) (by decide) (by decide)).mono ?_; rintro e w' ⟨rfl, hb'⟩; replace hacc := hacc.step hb'; clear hb')
    | (go_at_call 76; refine (mk_all _ _ _ _ _ ⟨by decide, by decide⟩ ⟨by decide, by decide⟩ ⟨by decide, by decide⟩ ⟨by decide, by decide⟩).mono ?_; rintro e w' ⟨A', c', rfl, hr', hb'⟩; replace hacc := hacc.snoc hb' hr'; clear hb' hr'))
  refine (mk_magic _ _ _ ⟨0, noC, false, 0, .node 5 3 0 4 []⟩ _ (w.heap.size + 1) _ hacc.lt ⟨by decide, by decide⟩ (by rw [price_any]; exact wide_any ⟨by decide, by decide⟩) (flatSp (a := ⟨0, noC, false, 0, .node 5 3 0 4 []⟩) _ _ _ _ _ _ _ _ ⟨by decide, by decide⟩ wide_no ⟨by decide, by decide⟩ ⟨by decide, by decide⟩ ⟨by decide, by decide⟩ ⟨by decide, by decide⟩ ⟨by decide, by decide⟩ rfl)).mono ?_
  rintro e w9 ⟨cs, rfl, hr, hb9⟩
  replace hacc := hacc.step hb9
  have hsx := cq_info hr
  have hcs := cq_size hr
  have h1 := cq_one hr
  go_wp2_with (refine wpList_store_row rfl 55 _ _ rfl w.heap.size cs rfl rfl 55 zeroD hacc.z hsx (by rw [hcs]; rfl) h1 ?_)
  exact card_end (p := 2) (by kernel_rfl) rfl rfl hacc hr (show (⟨2, 5, false, priceF 5 2 0, 0, 0, 0, [⟨0, noC, false, 0, .node 5 3 0 4 []⟩]⟩ : CardT) = _ by rw [price_any]; rfl)
theorem single_105 (w : World) : Calls Tryd.prog 72 #[.int .i64 105] w (CardR (tblC 105) w) := by
  go_enter Tryd.func72, Tryd.ntmps72
  go_upto_region 1 with fail
  obtain ⟨w0, hw⟩ : ∃ W, W = w.alloc (.cells zeroD 55) := ⟨_, rfl⟩
  have hacc : EAcc w zeroD 55 w0 [] := by rw [hw]; exact ⟨(Below.refl _ _).alloc (Nat.le_refl _) _, heap_alloc_new _ _, by simp⟩
  rw [← hw]
  clear hw
  go_wp2_with (first
    | (go_at_call 64; refine (mk_effect _ _ _ _ _).mono ?_; rintro e w' ⟨rfl, hb'⟩; replace hacc := hacc.step hb'; clear hb')
    | (go_at_call 75; refine (mk_spell _ _ _ _ _ _ _ _ _).mono ?_; rintro e w' ⟨rfl, hb'⟩; replace hacc := hacc.step hb'; clear hb')
    | (go_at_call 63; refine (mk_at _ _ _ _ _ _ _ _ _).mono ?_; rintro e w' ⟨rfl, hb'⟩; replace hacc := hacc.step hb'; clear hb')
    | (go_at_call 68; refine (mk_price 5 _ _ _ (by decide) (by decide) (by decide) (by decide) (by decide)).mono ?_; rintro e w' ⟨rfl, hb'⟩; replace hacc := hacc.step hb'; clear hb')
    | (go_at_call 76; refine (mk_all _ _ _ _ _ ⟨by decide, by decide⟩ ⟨by decide, by decide⟩ ⟨by decide, by decide⟩ ⟨by decide, by decide⟩).mono ?_; rintro e w' ⟨A', c', rfl, hr', hb'⟩; replace hacc := hacc.snoc hb' hr'; clear hb' hr'))
  refine (mk_magic _ _ _ ⟨0, noC, false, 4, .node 9 0 0 2 []⟩ _ (w.heap.size + 1) _ hacc.lt ⟨by decide, by decide⟩ (by rw [price_any]; exact wide_any ⟨by decide, by decide⟩) (flatSp (a := ⟨0, noC, false, 4, .node 9 0 0 2 []⟩) _ _ _ _ _ _ _ _ ⟨by decide, by decide⟩ wide_no ⟨by decide, by decide⟩ ⟨by decide, by decide⟩ ⟨by decide, by decide⟩ ⟨by decide, by decide⟩ ⟨by decide, by decide⟩ rfl)).mono ?_
  rintro e w9 ⟨cs, rfl, hr, hb9⟩
  replace hacc := hacc.step hb9
  have hsx := cq_info hr
  have hcs := cq_size hr
  have h1 := cq_one hr
  go_wp2_with (refine wpList_store_row rfl 55 _ _ rfl w.heap.size cs rfl rfl 55 zeroD hacc.z hsx (by rw [hcs]; rfl) h1 ?_)
  exact card_end (p := 2) (by kernel_rfl) rfl rfl hacc hr (show (⟨2, 5, true, priceF 5 3 0, 0, 0, 0, [⟨0, noC, false, 4, .node 9 0 0 2 []⟩]⟩ : CardT) = _ by rw [price_any]; rfl)
theorem single_106 (w : World) : Calls Tryd.prog 72 #[.int .i64 106] w (CardR (tblC 106) w) := by
  go_enter Tryd.func72, Tryd.ntmps72
  go_upto_region 1 with fail
  obtain ⟨w0, hw⟩ : ∃ W, W = w.alloc (.cells zeroD 55) := ⟨_, rfl⟩
  have hacc : EAcc w zeroD 55 w0 [] := by rw [hw]; exact ⟨(Below.refl _ _).alloc (Nat.le_refl _) _, heap_alloc_new _ _, by simp⟩
  rw [← hw]
  clear hw
  go_wp2_with (first
    | (go_at_call 64; refine (mk_effect _ _ _ _ _).mono ?_; rintro e w' ⟨rfl, hb'⟩; replace hacc := hacc.step hb'; clear hb')
    | (go_at_call 75; refine (mk_spell _ _ _ _ _ _ _ _ _).mono ?_; rintro e w' ⟨rfl, hb'⟩; replace hacc := hacc.step hb'; clear hb')
    | (go_at_call 63; refine (mk_at _ _ _ _ _ _ _ _ _).mono ?_; rintro e w' ⟨rfl, hb'⟩; replace hacc := hacc.step hb'; clear hb')
    | (go_at_call 68; refine (mk_price 5 _ _ _ (by decide) (by decide) (by decide) (by decide) (by decide)).mono ?_; rintro e w' ⟨rfl, hb'⟩; replace hacc := hacc.step hb'; clear hb')
    | (go_at_call 76; refine (mk_all _ _ _ _ _ ⟨by decide, by decide⟩ ⟨by decide, by decide⟩ ⟨by decide, by decide⟩ ⟨by decide, by decide⟩).mono ?_; rintro e w' ⟨A', c', rfl, hr', hb'⟩; replace hacc := hacc.snoc hb' hr'; clear hb' hr'))
  refine (mk_magic _ _ _ ⟨0, noC, false, 0, .node 20 0 0 0 [.node 7 0 0 2 []]⟩ _ (w.heap.size + 1) _ hacc.lt ⟨by decide, by decide⟩ (by rw [price_any]; exact wide_any ⟨by decide, by decide⟩) (ab_reads (a := ⟨0, noC, false, 0, .node 20 0 0 0 [.node 7 0 0 2 []]⟩) _ _ _ _ _ _ ⟨by decide, by decide⟩ wide_no ⟨by decide, by decide⟩ (hacc.get 0 rfl) rfl)).mono ?_
  rintro e w9 ⟨cs, rfl, hr, hb9⟩
  replace hacc := hacc.step hb9
  have hsx := cq_info hr
  have hcs := cq_size hr
  have h1 := cq_one hr
  go_wp2_with (refine wpList_store_row rfl 55 _ _ rfl w.heap.size cs rfl rfl 55 zeroD hacc.z hsx (by rw [hcs]; rfl) h1 ?_)
  exact card_end (p := 2) (by kernel_rfl) rfl rfl hacc hr (show (⟨2, 5, false, priceF 5 2 0, 0, 0, 0, [⟨0, noC, false, 0, .node 20 0 0 0 [.node 7 0 0 2 []]⟩]⟩ : CardT) = _ by rw [price_any]; rfl)
theorem single_109 (w : World) : Calls Tryd.prog 72 #[.int .i64 109] w (CardR (tblC 109) w) := by
  go_enter Tryd.func72, Tryd.ntmps72
  go_upto_region 1 with fail
  obtain ⟨w0, hw⟩ : ∃ W, W = w.alloc (.cells zeroD 55) := ⟨_, rfl⟩
  have hacc : EAcc w zeroD 55 w0 [] := by rw [hw]; exact ⟨(Below.refl _ _).alloc (Nat.le_refl _) _, heap_alloc_new _ _, by simp⟩
  rw [← hw]
  clear hw
  go_wp2_with (first
    | (go_at_call 64; refine (mk_effect _ _ _ _ _).mono ?_; rintro e w' ⟨rfl, hb'⟩; replace hacc := hacc.step hb'; clear hb')
    | (go_at_call 75; refine (mk_spell _ _ _ _ _ _ _ _ _).mono ?_; rintro e w' ⟨rfl, hb'⟩; replace hacc := hacc.step hb'; clear hb')
    | (go_at_call 63; refine (mk_at _ _ _ _ _ _ _ _ _).mono ?_; rintro e w' ⟨rfl, hb'⟩; replace hacc := hacc.step hb'; clear hb')
    | (go_at_call 68; refine (mk_price 5 _ _ _ (by decide) (by decide) (by decide) (by decide) (by decide)).mono ?_; rintro e w' ⟨rfl, hb'⟩; replace hacc := hacc.step hb'; clear hb')
    | (go_at_call 76; refine (mk_all _ _ _ _ _ ⟨by decide, by decide⟩ ⟨by decide, by decide⟩ ⟨by decide, by decide⟩ ⟨by decide, by decide⟩).mono ?_; rintro e w' ⟨A', c', rfl, hr', hb'⟩; replace hacc := hacc.snoc hb' hr'; clear hb' hr'))
  refine (mk_magic _ _ _ ⟨0, noC, false, 0, .node 14 2 112 0 []⟩ _ (w.heap.size + 1) _ hacc.lt ⟨by decide, by decide⟩ (by rw [price_any]; exact wide_any ⟨by decide, by decide⟩) (flatSp (a := ⟨0, noC, false, 0, .node 14 2 112 0 []⟩) _ _ _ _ _ _ _ _ ⟨by decide, by decide⟩ wide_no ⟨by decide, by decide⟩ ⟨by decide, by decide⟩ ⟨by decide, by decide⟩ ⟨by decide, by decide⟩ ⟨by decide, by decide⟩ rfl)).mono ?_
  rintro e w9 ⟨cs, rfl, hr, hb9⟩
  replace hacc := hacc.step hb9
  have hsx := cq_info hr
  have hcs := cq_size hr
  have h1 := cq_one hr
  go_wp2_with (refine wpList_store_row rfl 55 _ _ rfl w.heap.size cs rfl rfl 55 zeroD hacc.z hsx (by rw [hcs]; rfl) h1 ?_)
  exact card_end (p := 2) (by kernel_rfl) rfl rfl hacc hr (show (⟨2, 5, false, priceF 5 3 0, 0, 0, 0, [⟨0, noC, false, 0, .node 14 2 112 0 []⟩]⟩ : CardT) = _ by rw [price_any]; rfl)
theorem single_110 (w : World) : Calls Tryd.prog 72 #[.int .i64 110] w (CardR (tblC 110) w) := by
  go_enter Tryd.func72, Tryd.ntmps72
  go_upto_region 1 with fail
  obtain ⟨w0, hw⟩ : ∃ W, W = w.alloc (.cells zeroD 55) := ⟨_, rfl⟩
  have hacc : EAcc w zeroD 55 w0 [] := by rw [hw]; exact ⟨(Below.refl _ _).alloc (Nat.le_refl _) _, heap_alloc_new _ _, by simp⟩
  rw [← hw]
  clear hw
  go_wp2_with (first
    | (go_at_call 64; refine (mk_effect _ _ _ _ _).mono ?_; rintro e w' ⟨rfl, hb'⟩; replace hacc := hacc.step hb'; clear hb')
    | (go_at_call 75; refine (mk_spell _ _ _ _ _ _ _ _ _).mono ?_; rintro e w' ⟨rfl, hb'⟩; replace hacc := hacc.step hb'; clear hb')
    | (go_at_call 63; refine (mk_at _ _ _ _ _ _ _ _ _).mono ?_; rintro e w' ⟨rfl, hb'⟩; replace hacc := hacc.step hb'; clear hb')
    | (go_at_call 68; refine (mk_price 5 _ _ _ (by decide) (by decide) (by decide) (by decide) (by decide)).mono ?_; rintro e w' ⟨rfl, hb'⟩; replace hacc := hacc.step hb'; clear hb')
    | (go_at_call 76; refine (mk_all _ _ _ _ _ ⟨by decide, by decide⟩ ⟨by decide, by decide⟩ ⟨by decide, by decide⟩ ⟨by decide, by decide⟩).mono ?_; rintro e w' ⟨A', c', rfl, hr', hb'⟩; replace hacc := hacc.snoc hb' hr'; clear hb' hr'))
  refine (mk_magic _ _ _ ⟨0, noC, false, 0, .node 20 0 0 0 [.node 6 0 0 2 []]⟩ _ (w.heap.size + 1) _ hacc.lt ⟨by decide, by decide⟩ (by rw [price_any]; exact wide_any ⟨by decide, by decide⟩) (ab_reads (a := ⟨0, noC, false, 0, .node 20 0 0 0 [.node 6 0 0 2 []]⟩) _ _ _ _ _ _ ⟨by decide, by decide⟩ wide_no ⟨by decide, by decide⟩ (hacc.get 0 rfl) rfl)).mono ?_
  rintro e w9 ⟨cs, rfl, hr, hb9⟩
  replace hacc := hacc.step hb9
  have hsx := cq_info hr
  have hcs := cq_size hr
  have h1 := cq_one hr
  go_wp2_with (refine wpList_store_row rfl 55 _ _ rfl w.heap.size cs rfl rfl 55 zeroD hacc.z hsx (by rw [hcs]; rfl) h1 ?_)
  exact card_end (p := 2) (by kernel_rfl) rfl rfl hacc hr (show (⟨2, 5, false, priceF 5 4 0, 0, 0, 0, [⟨0, noC, false, 0, .node 20 0 0 0 [.node 6 0 0 2 []]⟩]⟩ : CardT) = _ by rw [price_any]; rfl)
theorem single_107 (w : World) : Calls Tryd.prog 72 #[.int .i64 107] w (CardR (tblC 107) w) := by
  go_enter Tryd.func72, Tryd.ntmps72
  go_upto_region 1 with fail
  obtain ⟨w0, hw⟩ : ∃ W, W = w.alloc (.cells zeroD 55) := ⟨_, rfl⟩
  have hacc : EAcc w zeroD 55 w0 [] := by rw [hw]; exact ⟨(Below.refl _ _).alloc (Nat.le_refl _) _, heap_alloc_new _ _, by simp⟩
  rw [← hw]
  clear hw
  go_wp2_with (first
    | (go_at_call 64; refine (mk_effect _ _ _ _ _).mono ?_; rintro e w' ⟨rfl, hb'⟩; replace hacc := hacc.step hb'; clear hb')
    | (go_at_call 75; refine (mk_spell _ _ _ _ _ _ _ _ _).mono ?_; rintro e w' ⟨rfl, hb'⟩; replace hacc := hacc.step hb'; clear hb')
    | (go_at_call 63; refine (mk_at _ _ _ _ _ _ _ _ _).mono ?_; rintro e w' ⟨rfl, hb'⟩; replace hacc := hacc.step hb'; clear hb')
    | (go_at_call 68; refine (mk_price 5 _ _ _ (by decide) (by decide) (by decide) (by decide) (by decide)).mono ?_; rintro e w' ⟨rfl, hb'⟩; replace hacc := hacc.step hb'; clear hb')
    | (go_at_call 76; refine (mk_all _ _ _ _ _ ⟨by decide, by decide⟩ ⟨by decide, by decide⟩ ⟨by decide, by decide⟩ ⟨by decide, by decide⟩).mono ?_; rintro e w' ⟨A', c', rfl, hr', hb'⟩; replace hacc := hacc.snoc hb' hr'; clear hb' hr'))
  have hact := mk_active noC false 0 15 1 5 0 none 0 0 w'
  rw [arr6] at hact
  refine hact.mono ?_
  clear hact
  rintro e w8 ⟨rfl, hb8⟩
  replace hacc := hacc.step hb8
  go_wp2_with fail
  refine (mk_relic _ _ ⟨1, noC, false, 0, .node 15 1 5 0 []⟩ _ (w.heap.size + 1) _ hacc.lt ⟨by decide, by decide⟩ (by rw [price_any]; exact wide_any ⟨by decide, by decide⟩) (flatSp _ _ _ _ _ _ _ _ ⟨by decide, by decide⟩ wide_no ⟨by decide, by decide⟩ ⟨by decide, by decide⟩ ⟨by decide, by decide⟩ ⟨by decide, by decide⟩ ⟨by decide, by decide⟩ rfl)).mono ?_
  rintro e w9 ⟨cs, rfl, hr, hb9⟩
  replace hacc := hacc.step hb9
  have hsx := cq_info hr
  have hcs := cq_size hr
  have h1 := cq_one hr
  go_wp2_with (refine wpList_store_row rfl 55 _ _ rfl w.heap.size cs rfl rfl 55 zeroD hacc.z hsx (by rw [hcs]; rfl) h1 ?_)
  exact card_end (p := 2) (by kernel_rfl) rfl rfl hacc hr (show (⟨3, 5, false, priceF 5 2 0, 0, 0, 0, [⟨1, noC, false, 0, .node 15 1 5 0 []⟩]⟩ : CardT) = _ by rw [price_any]; rfl)
theorem price_lit (n : Int) (w : World) (h0 : 0 ≤ n) (h1 : n ≤ 1000) : Calls Tryd.prog 68 #[.int .i64 5, .int .i64 n, .int .i64 0] w fun e w' => e = .returned (.agg #[.int .i64 0, .int .i64 0, .int .i64 0, .int .i64 0, .int .i64 0, .int .i64 n]) ∧ Below w.heap.size w w' := by
  have h := mk_price 5 n 0 w (by decide) h0 h1 (by decide) (by decide)
  rw [price_any, arr6] at h
  exact h
theorem single_108 (w : World) : Calls Tryd.prog 72 #[.int .i64 108] w (CardR (tblC 108) w) := by
  go_enter Tryd.func72, Tryd.ntmps72
  go_upto_region 1 with fail
  obtain ⟨w0, hw⟩ : ∃ W, W = w.alloc (.cells zeroD 55) := ⟨_, rfl⟩
  have hacc : EAcc w zeroD 55 w0 [] := by rw [hw]; exact ⟨(Below.refl _ _).alloc (Nat.le_refl _) _, heap_alloc_new _ _, by simp⟩
  rw [← hw]
  clear hw
  go_wp2_with fail
  refine (price_lit 2 _ (by decide) (by decide)).mono ?_
  rintro e w1 ⟨rfl, hb1⟩
  go_wp2_with fail
  refine (price_lit 1 _ (by decide) (by decide)).mono ?_
  rintro e w2 ⟨rfl, hb2⟩
  go_wp2_with fail
  refine (mk_effect _ _ _ _ _).mono ?_
  rintro e w3 ⟨rfl, hb3⟩
  go_wp2_with fail
  have hact := mk_active (updI noC 5 1) false 0 13 0 0 3 none 0 0 w3
  rw [arr6] at hact
  refine hact.mono ?_
  clear hact
  rintro e w4 ⟨rfl, hb4⟩
  rw [ab14]
  go_wp2_with fail
  refine (mk_manaTap _ _ _).mono ?_
  rintro e w5 ⟨rfl, hb5⟩
  rw [show abC (giveA 2 5) (evC 15 2 5 0 none 0 0) = #[.int .i64 6, .int .i64 0, .int .i64 0, .int .i64 0, .int .i64 0, .int .i64 0, .int .i64 0, .bool true, .int .i64 0, .int .i64 15, .int .i64 2, .int .i64 5, .int .i64 0, .slice none 0 0] from ab14 6 noC true 0 15 2 5 0 none 0 0]
  replace hacc := ((((hacc.step hb1).step hb2).step hb3).step hb4).step hb5
  have hal : ∀ cs : Array Value, EAcc w zeroD 55 (w5.alloc (.cells cs 79)) [] := fun cs => hacc.step ((Below.refl _ _).alloc (Nat.le_refl _) _)
  have hlt5 := hacc.lt
  go_wp2_with (refine wpList_store_row rfl 55 _ _ rfl w.heap.size _ rfl rfl 55 zeroD (hal _).z size13 rfl (by simp [Value.oneCell']) ?_)
  have hG := (AbAt.new w5 (abC ⟨1, updI noC 5 1, false, 0, .node 13 0 0 3 []⟩ (evC 13 0 0 3 none 0 0) ++ abC (giveA 2 5) (evC 15 2 5 0 none 0 0)))
  rw [ab14, show abC (giveA 2 5) (evC 15 2 5 0 none 0 0) = #[.int .i64 6, .int .i64 0, .int .i64 0, .int .i64 0, .int .i64 0, .int .i64 0, .int .i64 0, .bool true, .int .i64 0, .int .i64 15, .int .i64 2, .int .i64 5, .int .i64 0, .slice none 0 0] from ab14 6 noC true 0 15 2 5 0 none 0 0] at hG
  have hcd : cardC ⟨1, 5, false, updI noC 5 2, 1, 1, 0, [⟨1, updI noC 5 1, false, 0, .node 13 0 0 3 []⟩, giveA 2 5]⟩ (some ⟨w5.heap.size, 0, none⟩) 2 2 = #[.int .i64 1, .int .i64 5, .bool false, .int .i64 0, .int .i64 0, .int .i64 0, .int .i64 0, .int .i64 0, .int .i64 2, .int .i64 1, .int .i64 1, .int .i64 0, .slice (some ⟨w5.heap.size, 0, none⟩) 2 2] := by unfold cardC; rw [arr6]; rfl
  refine card_end (p := 2) (c' := ⟨1, 5, false, updI noC 5 2, 1, 1, 0, [⟨1, updI noC 5 1, false, 0, .node 13 0 0 3 []⟩, giveA 2 5]⟩) (by kernel_rfl) rfl rfl (hal _) ?_ rfl
  refine ⟨⟨by decide, by decide⟩, ⟨by decide, by decide⟩, wide_any ⟨by decide, by decide⟩, ⟨by decide, by decide⟩, ⟨by decide, by decide⟩, ⟨by decide, by decide⟩, some ⟨w5.heap.size, 0, none⟩, 2, hcd.symm, Nat.le_refl _, by unfold maxLen; simp, ?_⟩
  exact two_ab (ys := abC ⟨1, updI noC 5 1, false, 0, .node 13 0 0 3 []⟩ (evC 13 0 0 3 none 0 0)) (zs := abC (giveA 2 5) (evC 15 2 5 0 none 0 0)) (by rw [ab14, show abC (giveA 2 5) (evC 15 2 5 0 none 0 0) = _ from ab14 6 noC true 0 15 2 5 0 none 0 0]; exact hG)
    (flatSp _ _ _ _ _ _ _ _ ⟨by decide, by decide⟩ (wide_any ⟨by decide, by decide⟩) ⟨by decide, by decide⟩ ⟨by decide, by decide⟩ ⟨by decide, by decide⟩ ⟨by decide, by decide⟩ ⟨by decide, by decide⟩ rfl)
    (flatSp _ _ _ _ _ _ _ _ ⟨by decide, by decide⟩ wide_no ⟨by decide, by decide⟩ ⟨by decide, by decide⟩ ⟨by decide, by decide⟩ ⟨by decide, by decide⟩ ⟨by decide, by decide⟩ rfl) ⟨hlt5, by simp⟩
theorem single_111 (w : World) : Calls Tryd.prog 72 #[.int .i64 111] w (CardR (tblC 111) w) := by
  go_enter Tryd.func72, Tryd.ntmps72
  go_upto_region 1 with fail
  obtain ⟨w0, hw⟩ : ∃ W, W = w.alloc (.cells zeroD 55) := ⟨_, rfl⟩
  have hacc : EAcc w zeroD 55 w0 [] := by rw [hw]; exact ⟨(Below.refl _ _).alloc (Nat.le_refl _) _, heap_alloc_new _ _, by simp⟩
  rw [← hw]
  clear hw
  go_wp2_with fail
  refine (price_lit 3 _ (by decide) (by decide)).mono ?_
  rintro e w1 ⟨rfl, hb1⟩
  go_wp2_with fail
  refine (mk_effect _ _ _ _ _).mono ?_
  rintro e w2 ⟨rfl, hb2⟩
  go_wp2_with fail
  refine (mk_at _ _ _ _ _ _ _ _ _).mono ?_
  rintro e w5 ⟨rfl, hb5⟩
  replace hacc := ((hacc.step hb1).step hb2).step hb5
  have hal : ∀ cs : Array Value, EAcc w zeroD 55 (w5.alloc (.cells cs 79)) [] := fun cs => hacc.step ((Below.refl _ _).alloc (Nat.le_refl _) _)
  have hlt5 := hacc.lt
  go_wp2_with (first
    | (refine wpList_buildSlice_ab rfl (.tmp 76) rfl (abC ⟨3, noC, false, 0, .node 4 1 0 0 []⟩ (evC 4 1 0 0 none 0 0)) (abE_size _ _ _ _ _ _ _ _) rfl ?_)
    | (refine wpList_store_row rfl 55 _ _ rfl w.heap.size _ rfl rfl 55 zeroD (hal _).z size13 rfl (by simp [Value.oneCell']) ?_))
  have hcd : cardC ⟨1, 5, true, updI noC 5 3, 2, 3, 5, [⟨3, noC, false, 0, .node 4 1 0 0 []⟩]⟩ (some ⟨w5.heap.size, 0, none⟩) 1 1 = #[.int .i64 1, .int .i64 5, .bool true, .int .i64 0, .int .i64 0, .int .i64 0, .int .i64 0, .int .i64 0, .int .i64 3, .int .i64 2, .int .i64 3, .int .i64 5, .slice (some ⟨w5.heap.size, 0, none⟩) 1 1] := by unfold cardC; rw [arr6]; rfl
  refine card_end (p := 2) (c' := ⟨1, 5, true, updI noC 5 3, 2, 3, 5, [⟨3, noC, false, 0, .node 4 1 0 0 []⟩]⟩) (by kernel_rfl) rfl rfl (hal _) ?_ rfl
  refine ⟨⟨by decide, by decide⟩, ⟨by decide, by decide⟩, wide_any ⟨by decide, by decide⟩, ⟨by decide, by decide⟩, ⟨by decide, by decide⟩, ⟨by decide, by decide⟩, some ⟨w5.heap.size, 0, none⟩, 1, hcd.symm, Nat.le_refl _, by unfold maxLen; simp, ?_⟩
  exact one_ab (AbAt.new _ _) (flatSp _ _ _ _ _ _ _ _ ⟨by decide, by decide⟩ wide_no ⟨by decide, by decide⟩ ⟨by decide, by decide⟩ ⟨by decide, by decide⟩ ⟨by decide, by decide⟩ ⟨by decide, by decide⟩ rfl) ⟨hlt5, by simp⟩
/-- Any of them. -/
theorem single_any (k : Nat) (w : World) (hk : k < 12) : Calls Tryd.prog 72 #[.int .i64 ((100 + k : Nat) : Int)] w (CardR (tblC (100 + k)) w) := by
  match k, hk with
  | 0, _ => exact single_100 w
  | 1, _ => exact single_101 w
  | 2, _ => exact single_102 w
  | 3, _ => exact single_103 w
  | 4, _ => exact single_104 w
  | 5, _ => exact single_105 w
  | 6, _ => exact single_106 w
  | 7, _ => exact single_107 w
  | 8, _ => exact single_108 w
  | 9, _ => exact single_109 w
  | 10, _ => exact single_110 w
  | 11, _ => exact single_111 w
end Go.Proofs.YtplfblccaeligaaDoor
namespace Go.Proofs.YtplfblccaeligaaDoor
open Go.RowKit Ex Mx
set_option maxRecDepth 100000
theorem pairs_half : ∀ k < 8, pairs8 k = ((k / 2 + 1 : Nat) : Int) := by decide
theorem tough_half : ∀ k < 8, tough8 k = (((k + 1) / 2 + 1 : Nat) : Int) := by decide
/-- What a call that makes a list of abilities answers. -/
def AbsQ (l : List AbT) (w : World) (e : Ending) (w' : World) : Prop := ∃ A c, e = .returned (.slice A l.length c) ∧ l.length ≤ c ∧ c ≤ maxLen ∧ RdAQ (fun b => w.heap.size ≤ b ∧ b < w'.heap.size) w' 2 A l ∧ Below w.heap.size w w'
theorem abs_one {w W : World} {ys : Array Value} {a : AbT} {l : List AbT} (hb : Below w.heap.size w W) (hr : ReadsAQ (fun b => w.heap.size ≤ b ∧ b < (W.alloc (.cells ys 79)).heap.size) (W.alloc (.cells ys 79)) 2 ys a) (hl : l = [a]) : AbsQ l w (.returned (.slice (some ⟨W.heap.size, 0, none⟩) 1 1)) (W.alloc (.cells ys 79)) := by
  subst hl
  exact ⟨_, 1, rfl, Nat.le_refl _, by unfold maxLen; simp, one_ab (AbAt.new _ _) hr ⟨hb.size, by simp⟩, hb.alloc hb.size _⟩
theorem abs_0 (k : Nat) (w : World) (hk : k < 8) : Calls Tryd.prog 74 #[.int .i64 0, .int .i64 (k : Int)] w (AbsQ (beastA 0 k) w) := by
  go_enter Tryd.func74, Tryd.ntmps74
  go_wp2_with fail
  refine (mk_effect _ _ _ _ _).mono ?_
  rintro e w1 ⟨rfl, hb1⟩
  go_wp2_with fail
  refine (mk_at _ _ _ _ _ _ _ _ _).mono ?_
  rintro e w2 ⟨rfl, hb2⟩
  have hb := keepB hb2 hb1
  clear hb1 hb2
  go_wp2_with (refine wpList_buildSlice_ab rfl _ rfl _ (abE_size _ _ _ _ _ _ _ _) rfl ?_)
  go_ret
  exact abs_one hb (flatSp _ _ _ _ _ _ _ _ ⟨by decide, by decide⟩ (wide_no) ⟨by decide, by decide⟩ ⟨by decide, by decide⟩ ⟨by omega, by omega⟩ ⟨by decide, by decide⟩ ⟨by decide, by decide⟩ rfl) (rfl)
theorem abs_1 (k : Nat) (w : World) (hk : k < 8) : Calls Tryd.prog 74 #[.int .i64 1, .int .i64 (k : Int)] w (AbsQ (beastA 1 k) w) := by
  have r1 : (k : Int).tmod 2 = ((k % 2 : Nat) : Int) := by rw [Int.tmod_eq_emod_of_nonneg (by omega)]; omega
  by_cases hp : k % 2 = 0
  · have HE := Lib.hid (show beastA 1 k = [] by unfold beastA; rw [if_neg (by decide), if_pos rfl, if_pos hp])
    rw [hp] at r1
    go_enter Tryd.func74, Tryd.ntmps74
    go_wp2_with fail
    go_ret
    rw [HE.out]
    exact ⟨none, 0, rfl, Nat.le_refl _, by unfold maxLen; simp, no_ab, Below.refl _ _⟩
  · have HE := Lib.hid (show beastA 1 k = [⟨2, noC, false, 0, .node 4 1 0 0 []⟩] by unfold beastA; rw [if_neg (by decide), if_pos rfl, if_neg hp])
    rw [show k % 2 = 1 by omega] at r1
    go_enter Tryd.func74, Tryd.ntmps74
    go_wp2_with fail
    refine (mk_effect _ _ _ _ _).mono ?_
    rintro e w1 ⟨rfl, hb1⟩
    go_wp2_with fail
    refine (mk_at _ _ _ _ _ _ _ _ _).mono ?_
    rintro e w2 ⟨rfl, hb2⟩
    have hb := keepB hb2 hb1
    clear hb1 hb2
    go_wp2_with (refine wpList_buildSlice_ab rfl _ rfl _ (abE_size _ _ _ _ _ _ _ _) rfl ?_)
    go_ret
    exact abs_one hb (flatSp _ _ _ _ _ _ _ _ ⟨by decide, by decide⟩ (wide_no) ⟨by decide, by decide⟩ ⟨by decide, by decide⟩ ⟨by omega, by omega⟩ ⟨by decide, by decide⟩ ⟨by decide, by decide⟩ rfl) (HE.out)
theorem abs_2 (k : Nat) (w : World) (hk : k < 8) : Calls Tryd.prog 74 #[.int .i64 2, .int .i64 (k : Int)] w (AbsQ (beastA 2 k) w) := by
  obtain ⟨p, hp⟩ : ∃ p, p = k / 2 := ⟨_, rfl⟩
  have r2 : (k : Int).tdiv 2 = (p : Int) := by rw [Int.tdiv_eq_ediv_of_nonneg (by omega)]; omega
  have hp8 : p < 8 := by omega
  have HE := Lib.hid (show beastA 2 k = [⟨3, noC, false, 0, .node 3 ((p : Int) + 1) 0 1 []⟩] by
    unfold beastA; rw [if_neg (by decide), if_neg (by decide), if_pos rfl, pairs_half k hk, ← hp]; rfl)
  clear hp
  go_enter Tryd.func74, Tryd.ntmps74
  go_wp2_with fail
  refine (mk_effect _ _ _ _ _).mono ?_
  rintro e w1 ⟨rfl, hb1⟩
  go_wp2_with fail
  refine (mk_at _ _ _ _ _ _ _ _ _).mono ?_
  rintro e w2 ⟨rfl, hb2⟩
  have hb := keepB hb2 hb1
  clear hb1 hb2
  go_wp2_with (refine wpList_buildSlice_ab rfl _ rfl _ (abE_size _ _ _ _ _ _ _ _) rfl ?_)
  go_ret
  exact abs_one hb (flatSp _ _ _ _ _ _ _ _ ⟨by decide, by decide⟩ (wide_no) ⟨by decide, by decide⟩ ⟨by decide, by decide⟩ ⟨by omega, by omega⟩ ⟨by decide, by decide⟩ ⟨by decide, by decide⟩ rfl) (HE.out)
theorem abs_3 (k : Nat) (w : World) : Calls Tryd.prog 74 #[.int .i64 3, .int .i64 (k : Int)] w (AbsQ (beastA 3 k) w) := by
  have HE := Lib.hid (show beastA 3 k = [⟨1, priceF 3 1 0, true, 3, .node 1 1 0 2 []⟩] by rw [price_only (by decide)]; rfl)
  go_enter Tryd.func74, Tryd.ntmps74
  go_wp2_with fail
  refine (mk_price 3 1 0 _ (by decide) (by decide) (by decide) (by decide) (by decide)).mono ?_
  rintro e w1 ⟨rfl, hb1⟩
  go_wp2_with fail
  refine (mk_effect _ _ _ _ _).mono ?_
  rintro e w2 ⟨rfl, hb2⟩
  go_wp2_with fail
  refine (mk_active _ _ _ _ _ _ _ _ _ _ _).mono ?_
  rintro e w3 ⟨rfl, hb3⟩
  have hb := keepB hb3 (keepB hb2 hb1)
  clear hb1 hb2 hb3
  go_wp2_with (refine wpList_buildSlice_ab rfl _ rfl _ (abE_size _ _ _ _ _ _ _ _) rfl ?_)
  go_ret
  exact abs_one hb (flatSp _ _ _ _ _ _ _ _ ⟨by decide, by decide⟩ (by rw [price_only (by decide)]; exact wide_one) ⟨by decide, by decide⟩ ⟨by decide, by decide⟩ ⟨by omega, by omega⟩ ⟨by decide, by decide⟩ ⟨by decide, by decide⟩ rfl) (HE.out)
theorem abs_4 (k : Nat) (w : World) : Calls Tryd.prog 74 #[.int .i64 4, .int .i64 (k : Int)] w (AbsQ (beastA 4 k) w) := by
  have HE := Lib.hid (show beastA 4 k = [⟨1, priceF 4 1 0, false, 0, .node 10 1 1 3 []⟩] by rw [price_only (by decide)]; rfl)
  go_enter Tryd.func74, Tryd.ntmps74
  go_wp2_with fail
  refine (mk_price 4 1 0 _ (by decide) (by decide) (by decide) (by decide) (by decide)).mono ?_
  rintro e w1 ⟨rfl, hb1⟩
  go_wp2_with fail
  refine (mk_effect _ _ _ _ _).mono ?_
  rintro e w2 ⟨rfl, hb2⟩
  go_wp2_with fail
  refine (mk_active _ _ _ _ _ _ _ _ _ _ _).mono ?_
  rintro e w3 ⟨rfl, hb3⟩
  have hb := keepB hb3 (keepB hb2 hb1)
  clear hb1 hb2 hb3
  go_wp2_with (refine wpList_buildSlice_ab rfl _ rfl _ (abE_size _ _ _ _ _ _ _ _) rfl ?_)
  go_ret
  exact abs_one hb (flatSp _ _ _ _ _ _ _ _ ⟨by decide, by decide⟩ (by rw [price_only (by decide)]; exact wide_one) ⟨by decide, by decide⟩ ⟨by decide, by decide⟩ ⟨by omega, by omega⟩ ⟨by decide, by decide⟩ ⟨by decide, by decide⟩ rfl) (HE.out)
theorem abs_any (c k : Nat) (w : World) (hc : c < 5) (hk : k < 8) : Calls Tryd.prog 74 #[.int .i64 (c : Int), .int .i64 (k : Int)] w (AbsQ (beastA c k) w) := by
  match c, hc with
  | 0, _ => exact abs_0 k w hk
  | 1, _ => exact abs_1 k w hk
  | 2, _ => exact abs_2 k w hk
  | 3, _ => exact abs_3 k w
  | 4, _ => exact abs_4 k w
end Go.Proofs.YtplfblccaeligaaDoor
namespace Go.Proofs.YtplfblccaeligaaDoor
open Go.RowKit Ex Mx
set_option maxRecDepth 100000
namespace Ex
def beastC (c k : Nat) : CardT := ⟨1, (c : Int), false, updI (updI noC c (if 3 < k then 2 else 1)) 5 (k : Int), pairs8 k + (if c = 3 then 1 else 0), tough8 k + (if c = 4 then 1 else 0), says8 k, beastA c k⟩
end Ex
theorem says_pow : ∀ k < 8, IntKind.i64.wrap ((2 : Int) ^ k) = says8 k := by decide
theorem EAcc.setRow {w W : World} {z cs : Array Value} {t : TypeId} {P : Nat} (h : EAcc w z t W []) (hP : w.heap.size < P) : EAcc w z t (W.setRow P cs) [] :=
  ⟨below_setRow h.b _ _ (by omega), (setRow_other _ _ _ _ (by omega)).trans h.z, by simp⟩
theorem EAcc.setCell {w W : World} {z : Array Value} {t : TypeId} {P i : Nat} {v : Value} (h : EAcc w z t W []) (hP : w.heap.size < P) : EAcc w z t (W.setCell ⟨P, i, none⟩ v) [] :=
  ⟨h.b.setCell (by simp; omega) v, (heap_setCell_other W ⟨P, i, none⟩ _ v (by simp; omega)).trans h.z, by simp⟩
theorem build_card13 (q p t s f0 f1 f2 f3 f4 f5 : Int) (A : Option Addr) (n c : Nat) (W : World) : (Instr.build 55 #[(0, .int .i64 1), (1, .int .i64 q), (3, .agg #[.int .i64 f0, .int .i64 f1, .int .i64 f2, .int .i64 f3, .int .i64 f4, .int .i64 f5]), (4, .int .i64 p), (5, .int .i64 t), (6, .int .i64 s), (7, .slice A n c)]).run Tryd.prog W =
    .ok (.agg #[.int .i64 1, .int .i64 q, .bool false, .int .i64 f0, .int .i64 f1, .int .i64 f2, .int .i64 f3, .int .i64 f4, .int .i64 f5, .int .i64 p, .int .i64 t, .int .i64 s, .slice A n c]) W := by kernel_rfl
theorem build_card (q p t s : Int) (f : Nat → Int) (A : Option Addr) (n c : Nat) (W : World) : (Instr.build 55 #[(0, .int .i64 1), (1, .int .i64 q), (3, .agg (arr .i64 6 f)), (4, .int .i64 p), (5, .int .i64 t), (6, .int .i64 s), (7, .slice A n c)]).run Tryd.prog W =
    .ok (.agg (cardC ⟨1, q, false, f, p, t, s, []⟩ A n c)) W := by
  have h := build_card13 q p t s (f 0) (f 1) (f 2) (f 3) (f 4) (f 5) A n c W
  unfold cardC
  rw [arr6]
  exact h
theorem yields_card {ops : Array Oper} {S : World → Prop} {op : Oper} {a : Act} (hw : Region.wanted op (yielded ops a.tmps) = true) {y1 y3 y4 y5 y6 y7 : Operand}
    (ho : op.op = .build 55 #[(0, .const (.int .i64 1)), (1, y1), (3, y3), (4, y4), (5, y5), (6, y6), (7, y7)]) (q p t s : Int) (f : Nat → Int) (A : Option Addr) (n c : Nat)
    (e1 : a.eval y1 = .int .i64 q) (e3 : a.eval y3 = .agg (arr .i64 6 f)) (e4 : a.eval y4 = .int .i64 p) (e5 : a.eval y5 = .int .i64 t) (e6 : a.eval y6 = .int .i64 s) (e7 : a.eval y7 = .slice A n c) : YieldsIf Tryd.prog ops S op (.agg (cardC ⟨1, q, false, f, p, t, s, []⟩ A n c)) a :=
  .inl ⟨hw, fun w _ => by
    unfold execOp
    simp only [ho, List.map_toArray, List.map_cons, List.map_nil, show ∀ v, a.eval (Operand.const v) = v from fun _ => rfl, e1, e3, e4, e5, e6, e7, Sem.run_bind, Sem.run_pure]
    rw [build_card]
    rfl⟩
theorem RdAQ.more {Q Q' : Nat → Prop} {w w' : World} {d : Nat} {A : Option Addr} {l : List AbT} (h : RdAQ Q w d A l) (hb : Below w.heap.size w w') (hq : ∀ b, Q b → b < w.heap.size ∧ Q' b) : RdAQ Q' w' d A l := h.keep (fun b hb' => hb.block b (hq b hb').1) (fun b hb' => (hq b hb').2)
theorem beast_card {c k : Nat} (hc : c < 5) (hk : k < 8) {Q : Nat → Prop} {W : World} {A : Option Addr} {cc : Nat} (hl : (beastA c k).length ≤ cc) (hcm : cc ≤ maxLen) (hx : RdAQ Q W 2 A (beastA c k)) {f : Nat → Int} {p t s : Int}
    (hf : f = (beastC c k).cost) (hp : p = (beastC c k).power) (ht : t = (beastC c k).tough) (hs : s = (beastC c k).says) : ReadsCQ Q W 2 (cardC ⟨1, (c : Int), false, f, p, t, s, []⟩ A (beastA c k).length cc) (beastC c k) := by
  subst hf hp ht hs
  have h1 := pairs_half k hk
  have h2 := tough_half k hk
  refine ⟨in_1, ⟨by show _ ≤ (c : Int); omega, by show (c : Int) ≤ _; omega⟩, fun i _ => ?_, ?_, ?_, says8_in k, A, cc, rfl, hl, hcm, hx⟩
  · show -9223372036854775808 ≤ updI (updI noC c (if 3 < k then 2 else 1)) 5 (k : Int) i ∧ updI (updI noC c (if 3 < k then 2 else 1)) 5 (k : Int) i ≤ 9223372036854775807
    simp only [updI, noC]
    split
    · omega
    · split
      · split <;> decide
      · decide
  · show -9223372036854775808 ≤ pairs8 k + (if c = 3 then 1 else 0) ∧ pairs8 k + (if c = 3 then 1 else 0) ≤ 9223372036854775807
    rw [h1]; split <;> omega
  · show -9223372036854775808 ≤ tough8 k + (if c = 4 then 1 else 0) ∧ tough8 k + (if c = 4 then 1 else 0) ≤ 9223372036854775807
    rw [h2]; split <;> omega
theorem beast_cost {c k q4 : Nat} (hc : c < 5) (hk : k < 8) (hq : q4 = k / 4) : priceF c (1 + (q4 : Int)) (k : Int) = (beastC c k).cost := by
  rw [price_lo hc]
  show _ = updI (updI noC c (if 3 < k then 2 else 1)) 5 (k : Int)
  congr 2
  split <;> omega
set_option linter.unusedSimpArgs false in
set_option maxHeartbeats 1000000 in
theorem beast_any (c k : Nat) (w : World) (hc : c < 5) (hk : k < 8) : Calls Tryd.prog 65 #[.int .i64 (c : Int), .int .i64 (k : Int)] w (CardR (beastC c k) w) := by
  obtain ⟨q4, hq4⟩ : ∃ p, p = k / 4 := ⟨_, rfl⟩
  obtain ⟨q2, hq2⟩ : ∃ p, p = k / 2 := ⟨_, rfl⟩
  obtain ⟨h2, hh2⟩ : ∃ p, p = (k + 1) / 2 := ⟨_, rfl⟩
  have r4 : (k : Int).tdiv 4 = (q4 : Int) := by rw [Int.tdiv_eq_ediv_of_nonneg (by omega)]; omega
  have r2 : (k : Int).tdiv 2 = (q2 : Int) := by rw [Int.tdiv_eq_ediv_of_nonneg (by omega)]; omega
  have r1 : ((k : Int) + 1).tdiv 2 = (h2 : Int) := by rw [Int.tdiv_eq_ediv_of_nonneg (by omega)]; omega
  have b4 : q4 < 2 := by omega
  have b2 : q2 < 8 := by omega
  have b1 : h2 < 8 := by omega
  have HQ := Lib.hid (And.intro hq4 (And.intro hq2 hh2))
  obtain ⟨pw, hpw⟩ : ∃ x : Int, x = (q2 : Int) + 1 := ⟨_, rfl⟩
  obtain ⟨tg, htg⟩ : ∃ x : Int, x = (h2 : Int) + 1 := ⟨_, rfl⟩
  obtain ⟨sy, hsy⟩ : ∃ x : Int, x = says8 k := ⟨_, rfl⟩
  have e1 : IntKind.i64.wrap (q4 : Int) = (q4 : Int) := i64_in (by omega) (by omega)
  have e2 : IntKind.i64.wrap (1 + (q4 : Int)) = 1 + (q4 : Int) := i64_in (by omega) (by omega)
  have e3 : IntKind.i64.wrap (q2 : Int) = (q2 : Int) := i64_in (by omega) (by omega)
  have e4 : IntKind.i64.wrap ((q2 : Int) + 1) = pw := by rw [hpw]; exact i64_in (by omega) (by omega)
  have e5 : IntKind.i64.wrap ((k : Int) + 1) = (k : Int) + 1 := i64_in (by omega) (by omega)
  have e6 : IntKind.i64.wrap (h2 : Int) = (h2 : Int) := i64_in (by omega) (by omega)
  have e7 : IntKind.i64.wrap ((h2 : Int) + 1) = tg := by rw [htg]; exact i64_in (by omega) (by omega)
  have e8 : IntKind.i64.wrap ((2 : Int) ^ k) = sy := by rw [hsy]; exact says_pow k hk
  have bp : 0 ≤ pw ∧ pw < 10 := by omega
  have bt : 0 ≤ tg ∧ tg < 10 := by omega
  obtain ⟨bp0, bp1⟩ := bp
  obtain ⟨bt0, bt1⟩ := bt
  have HV := Lib.hid (And.intro hpw (And.intro htg hsy))
  clear hq4 hq2 hh2 hpw htg hsy
  go_enter Tryd.func65, Tryd.ntmps65
  go_upto_region 1 with fail
  obtain ⟨w0, hw⟩ : ∃ W, W = w.alloc (.cells zeroD 55) := ⟨_, rfl⟩
  have hacc : EAcc w zeroD 55 w0 [] := by rw [hw]; exact ⟨(Below.refl _ _).alloc (Nat.le_refl _) _, heap_alloc_new _ _, by simp⟩
  rw [← hw]
  clear hw
  refine wp_region_held_drew (S := fun W => EAcc w zeroD 55 W []) (by kernel_rfl) (hacc.step (Below.refl _ _).drew) (fun hHeld => ?_)
  refine wpAnyH_take (i := 0) (v := ?_) rfl (by kernel_rfl) (by kernel_rfl) (by kernel_rfl) (fun _ _ _ h => h) (Or.inl ⟨by rfl, ?_⟩) hHeld ?_
  rotate_left
  · (intro w hSw; go_simp; (try with_reducible rfl))
  simp only [Act.put, List.getElem_toArray, List.getElem_cons_zero, List.getElem_cons_succ, List.setIfInBounds_toArray, List.set_cons_zero, List.set_cons_succ]
  refine wpAnyH_take (i := 1) (v := ?_) rfl (by kernel_rfl) (by kernel_rfl) (by kernel_rfl) (fun _ _ _ h => h) (Or.inl ⟨by rfl, ?_⟩) hHeld ?_
  rotate_left
  · (intro w hSw; go_simp; (try with_reducible rfl))
  simp only [Act.put, List.getElem_toArray, List.getElem_cons_zero, List.getElem_cons_succ, List.setIfInBounds_toArray, List.set_cons_zero, List.set_cons_succ]
  refine wpAnyH_take (i := 2) (v := ?_) rfl (by kernel_rfl) (by kernel_rfl) (by kernel_rfl) (fun _ _ _ h => h) (Or.inl ⟨by rfl, ?_⟩) hHeld ?_
  rotate_left
  · (intro w hSw; go_simp; (try with_reducible rfl))
  simp only [Act.put, List.getElem_toArray, List.getElem_cons_zero, List.getElem_cons_succ, List.setIfInBounds_toArray, List.set_cons_zero, List.set_cons_succ]
  refine wpAnyH_take (i := 3) (v := ?_) rfl (by kernel_rfl) (by kernel_rfl) (by kernel_rfl) (fun _ _ _ h => h) (Or.inl ⟨by rfl, ?_⟩) hHeld ?_
  rotate_left
  · (intro w hSw; go_simp; (try with_reducible rfl))
  simp only [Act.put, List.getElem_toArray, List.getElem_cons_zero, List.getElem_cons_succ, List.setIfInBounds_toArray, List.set_cons_zero, List.set_cons_succ]
  refine wpAnyH_take (i := 4) (v := ?_) rfl (by kernel_rfl) (by kernel_rfl) (by kernel_rfl) (fun _ _ _ h => h) (Or.inl ⟨by rfl, ?_⟩) hHeld ?_
  rotate_left
  · (intro w hSw; go_simp; (try with_reducible rfl))
  simp only [Act.put, List.getElem_toArray, List.getElem_cons_zero, List.getElem_cons_succ, List.setIfInBounds_toArray, List.set_cons_zero, List.set_cons_succ]
  refine wpAnyH_take (i := 5) (v := ?_) rfl (by kernel_rfl) (by kernel_rfl) (by kernel_rfl) (fun _ _ _ h => h) (Or.inl ⟨by rfl, ?_⟩) hHeld ?_
  rotate_left
  · (intro w hSw; go_simp; (try with_reducible rfl))
  simp only [Act.put, List.getElem_toArray, List.getElem_cons_zero, List.getElem_cons_succ, List.setIfInBounds_toArray, List.set_cons_zero, List.set_cons_succ]
  refine wpAnyH_take (i := 7) (v := ?_) rfl (by kernel_rfl) (by kernel_rfl) (by kernel_rfl) (fun _ _ _ h => h) (Or.inl ⟨by rfl, ?_⟩) hHeld ?_
  rotate_left
  · (intro w hSw; go_simp; (try with_reducible rfl))
  simp only [Act.put, List.getElem_toArray, List.getElem_cons_zero, List.getElem_cons_succ, List.setIfInBounds_toArray, List.set_cons_zero, List.set_cons_succ]
  refine wpAnyH_take (i := 8) (v := ?_) rfl (by kernel_rfl) (by kernel_rfl) (by kernel_rfl) (fun _ _ _ h => h) (Or.inl ⟨by rfl, ?_⟩) hHeld ?_
  rotate_left
  · (intro w hSw; go_simp; (try with_reducible rfl))
  simp only [Act.put, List.getElem_toArray, List.getElem_cons_zero, List.getElem_cons_succ, List.setIfInBounds_toArray, List.set_cons_zero, List.set_cons_succ]
  refine wpAnyH_take (i := 9) (v := ?_) rfl (by kernel_rfl) (by kernel_rfl) (by kernel_rfl) (fun _ _ _ h => h) (Or.inl ⟨by rfl, ?_⟩) hHeld ?_
  rotate_left
  · (intro w hSw; go_simp; (try with_reducible rfl))
  simp only [Act.put, List.getElem_toArray, List.getElem_cons_zero, List.getElem_cons_succ, List.setIfInBounds_toArray, List.set_cons_zero, List.set_cons_succ]
  refine wpAnyH_take (i := 10) (v := ?_) rfl (by kernel_rfl) (by kernel_rfl) (by kernel_rfl) (fun _ _ _ h => h) (Or.inl ⟨by rfl, ?_⟩) hHeld ?_
  rotate_left
  · (intro w hSw; go_simp; (try with_reducible rfl))
  simp only [Act.put, List.getElem_toArray, List.getElem_cons_zero, List.getElem_cons_succ, List.setIfInBounds_toArray, List.set_cons_zero, List.set_cons_succ]
  refine wpAnyH_take (i := 11) (v := ?_) rfl (by kernel_rfl) (by kernel_rfl) (by kernel_rfl) (fun _ _ _ h => h) (Or.inl ⟨by rfl, ?_⟩) hHeld ?_
  rotate_left
  · (intro w hSw; go_simp; (try with_reducible rfl))
  simp only [Act.put, List.getElem_toArray, List.getElem_cons_zero, List.getElem_cons_succ, List.setIfInBounds_toArray, List.set_cons_zero, List.set_cons_succ]
  refine wpAnyH_take (i := 12) (v := ?_) rfl (by kernel_rfl) (by kernel_rfl) (by kernel_rfl) (fun _ _ _ h => h) (Or.inl ⟨by rfl, ?_⟩) hHeld ?_
  rotate_left
  · (intro w hSw; go_simp; (try with_reducible rfl))
  simp only [Act.put, List.getElem_toArray, List.getElem_cons_zero, List.getElem_cons_succ, List.setIfInBounds_toArray, List.set_cons_zero, List.set_cons_succ]
  refine wpAnyH_take (i := 13) (v := ?_) rfl (by kernel_rfl) (by kernel_rfl) (by kernel_rfl) (fun _ _ _ h => h) (Or.inl ⟨by rfl, ?_⟩) hHeld ?_
  rotate_left
  · (intro w hSw; go_simp; (try with_reducible rfl))
  simp only [Act.put, List.getElem_toArray, List.getElem_cons_zero, List.getElem_cons_succ, List.setIfInBounds_toArray, List.set_cons_zero, List.set_cons_succ]
  refine wpAnyH_take (i := 14) (v := ?_) rfl (by kernel_rfl) (by kernel_rfl) (by kernel_rfl) (fun _ _ _ h => h) (Or.inl ⟨by rfl, ?_⟩) hHeld ?_
  rotate_left
  · (intro w hSw; go_simp; (try with_reducible rfl))
  simp only [Act.put, List.getElem_toArray, List.getElem_cons_zero, List.getElem_cons_succ, List.setIfInBounds_toArray, List.set_cons_zero, List.set_cons_succ]
  refine wpAnyH_take (i := 15) (v := ?_) rfl (by kernel_rfl) (by kernel_rfl) (by kernel_rfl) (fun _ _ _ h => h) (Or.inl ⟨by rfl, ?_⟩) hHeld ?_
  rotate_left
  · (intro w hSw; go_simp; (try with_reducible rfl))
  simp only [Act.put, List.getElem_toArray, List.getElem_cons_zero, List.getElem_cons_succ, List.setIfInBounds_toArray, List.set_cons_zero, List.set_cons_succ]
  refine wpAnyH_take (i := 16) (v := ?_) rfl (by kernel_rfl) (by kernel_rfl) (by kernel_rfl) (fun _ _ _ h => h) (Or.inl ⟨by rfl, ?_⟩) hHeld ?_
  rotate_left
  · (intro w hSw; go_simp; (try with_reducible rfl))
  simp only [Act.put, List.getElem_toArray, List.getElem_cons_zero, List.getElem_cons_succ, List.setIfInBounds_toArray, List.set_cons_zero, List.set_cons_succ]
  refine wpAnyH_take (i := 17) (v := ?_) rfl (by kernel_rfl) (by kernel_rfl) (by kernel_rfl) (fun _ _ _ h => h) (Or.inl ⟨by rfl, ?_⟩) hHeld ?_
  rotate_left
  · (intro w hSw; go_simp; (try with_reducible rfl))
  simp only [Act.put, List.getElem_toArray, List.getElem_cons_zero, List.getElem_cons_succ, List.setIfInBounds_toArray, List.set_cons_zero, List.set_cons_succ]
  clear r4 r2 r1 e1 e2 e3 e4 e5 e6 e7 e8
  generalize w0.drew = V0 at hHeld ⊢
  refine wpAnyH_ready (rs := [6, 20]) (by kernel_rfl) (by simp) ?_
  refine AllReadyH.cons rfl (fun K hK => ?_) (AllReadyH.cons rfl (fun K hK => ?_) AllReadyH.nil)
  all_goals simp only [List.getElem_toArray, List.getElem_cons_zero, List.getElem_cons_succ]
  · skip
    go_simp
    refine (mk_price c (1 + (q4 : Int)) (k : Int) _ (by omega) (by omega) (by omega) (by omega) (by omega)).mono ?_
    rintro e V1 ⟨rfl, hb'⟩
    go_wp2_with fail
    replace hHeld := hHeld.step hb'
    refine hK.out _ _ hHeld (fun _ => ?_)
    clear hK K
    try simp only [Act.put, List.setIfInBounds_toArray, List.set_cons_zero, List.set_cons_succ]
    refine wpAnyH_ready (rs := [18, 20]) (by kernel_rfl) (by simp) ?_
    refine AllReadyH.cons rfl (fun K hK => ?_) (AllReadyH.cons rfl (fun K hK => ?_) AllReadyH.nil)
    all_goals simp only [List.getElem_toArray, List.getElem_cons_zero, List.getElem_cons_succ]
    · skip
      go_simp
      refine (abs_any c k _ hc hk).mono ?_
      rintro e V2 ⟨A, cc, rfl, hl, hcm, hrd, hb'⟩
      go_wp2_with fail
      have hlo := hHeld.lt
      replace hHeld := hHeld.step hb'
      refine hK.out _ _ hHeld (fun _ => ?_)
      clear hK K
      try simp only [Act.put, List.setIfInBounds_toArray, List.set_cons_zero, List.set_cons_succ]
      refine wpAnyH_take (i := 19) (v := .agg (cardC ⟨1, (c : Int), false, priceF c (1 + (q4 : Int)) (k : Int), pw, tg, sy, []⟩ A (beastA c k).length cc)) rfl (by kernel_rfl) (by kernel_rfl) (by kernel_rfl) (fun _ _ _ h => h) (yields_card rfl rfl _ _ _ _ _ _ _ _ rfl rfl rfl rfl rfl rfl) hHeld ?_
      simp only [Act.put, List.getElem_toArray, List.getElem_cons_zero, List.getElem_cons_succ, List.setIfInBounds_toArray, List.set_cons_zero, List.set_cons_succ]
      refine wpAnyH_ready (rs := [20]) (by kernel_rfl) (by simp) ?_
      refine AllReadyH.cons rfl (fun K hK => ?_) AllReadyH.nil
      simp only [List.getElem_toArray, List.getElem_cons_zero, List.getElem_cons_succ]
      replace hrd := hrd.more (w' := V2) (Q' := fun b => w.heap.size + 1 ≤ b ∧ b < V2.heap.size) (Below.refl _ _) (fun b hb => ⟨hb.2, by omega, hb.2⟩)
      go_simp
      obtain ⟨V3, hW⟩ : ∃ W, W = V2.alloc (.cells zeroD 55) := ⟨_, rfl⟩
      have hx : CdAt V3 V2.heap.size zeroD := by rw [hW]; exact CdAt.new _ _
      have hb' : Below V2.heap.size V2 V3 := by rw [hW]; exact (Below.refl _ _).alloc (Nat.le_refl _) _
      have hPl := hHeld.lt
      have hlx := hx.lt
      rw [← hW]
      clear hW
      replace hHeld := hHeld.step hb'
      refine hK.out _ _ hHeld (fun _ => ?_)
      clear hK K
      try simp only [Act.put, List.setIfInBounds_toArray, List.set_cons_zero, List.set_cons_succ]
      replace hrd := hrd.more (w' := V3) (Q' := fun b => w.heap.size + 1 ≤ b ∧ b < V3.heap.size ∧ b ≠ V2.heap.size) hb' (fun b hb => ⟨hb.2, by omega⟩)
      have hs13 : (cardC ⟨1, (c : Int), false, priceF c (1 + (q4 : Int)) (k : Int), pw, tg, sy, []⟩ A (beastA c k).length cc).size = 13 := by simp [cardC, arr_size]
      refine wpAnyH_ready (rs := [21]) (by kernel_rfl) (by simp) ?_
      refine AllReadyH.cons rfl (fun K hK => ?_) AllReadyH.nil
      simp only [List.getElem_toArray, List.getElem_cons_zero, List.getElem_cons_succ]
      refine wp_store_row 55 (.tmp 5) (.tmp 25) rfl V2.heap.size (cardC ⟨1, (c : Int), false, priceF c (1 + (q4 : Int)) (k : Int), pw, tg, sy, []⟩ A (beastA c k).length cc) rfl rfl 55 zeroD hx (by rw [hs13]; exact size13) (by rw [hs13]; rfl) (card_one _ _ _ _) ?_
      refine hK.out _ _ (hHeld.setRow hPl) (fun _ => ?_)
      clear hK K
      try simp only [Act.put, List.setIfInBounds_toArray, List.set_cons_zero, List.set_cons_succ]
      refine wpAnyH_done (by kernel_rfl) ?_ _
      obtain ⟨W5, hW⟩ : ∃ W, W = V3.setRow V2.heap.size (cardC ⟨1, (c : Int), false, priceF c (1 + (q4 : Int)) (k : Int), pw, tg, sy, []⟩ A (beastA c k).length cc) := ⟨_, rfl⟩
      have hC5 : CdAt W5 V2.heap.size (cardC ⟨1, (c : Int), false, priceF c (1 + (q4 : Int)) (k : Int), pw, tg, sy, []⟩ A (beastA c k).length cc) := by rw [hW]; exact setRow_heap _ _ _ _ _ _ hx
      have HR5 := Lib.hid (show RdAQ (fun b => w.heap.size + 1 ≤ b ∧ b < W5.heap.size ∧ b ≠ V2.heap.size) W5 2 A (beastA c k) from hrd.keep (fun b hb => by rw [hW]; exact setRow_other _ _ _ _ hb.2.2) (fun b hb => by rw [hW, setRow_size]; exact hb))
      have hA5 : EAcc w zeroD 55 W5 [] := by rw [hW]; exact hHeld.setRow hPl
      rw [← hW]
      clear hW hHeld hx hrd hacc hs13
      obtain ⟨P, hP⟩ : ∃ P, P = V2.heap.size := ⟨_, rfl⟩
      rw [← hP] at hC5 HR5 hPl ⊢
      clear hP
      have HL := Lib.hid (And.intro hl hcm)
      have HL5 := Lib.hid hA5
      clear hl hcm
      go_upto_region 3 with fail
      by_cases h3 : c = 3
      · subst h3
        have k9 : W5.cell? ⟨P, 9, none⟩ = some (.int .i64 pw) := by rw [hC5.cell]; exact cd_power
        have f9 := frozen_of_row W5 P 9 _ _ hC5
        rw [show ((3 : Nat) : Int) = 3 from rfl]
        go_upto_region 7 with fail
        obtain ⟨W6, hW⟩ : ∃ W, W = W5.setCell ⟨P, 9, none⟩ (.int .i64 (pw + 1)) := ⟨_, rfl⟩
        have hC6 : CdAt W6 P (cardC ⟨1, ((3 : Nat) : Int), false, priceF 3 (1 + (q4 : Int)) (k : Int), pw + 1, tg, sy, []⟩ A (beastA 3 k).length cc) := by
          rw [hW]; have := heap_setCell_same W5 P 9 _ _ (.int .i64 (pw + 1)) hC5; rw [set_power] at this; exact this
        have hA6 : EAcc w zeroD 55 W6 [] := by rw [hW]; exact HL5.out.setCell hPl
        have HR6 := Lib.hid (show RdAQ (fun b => w.heap.size + 1 ≤ b ∧ b < W6.heap.size ∧ b ≠ P) W6 2 A (beastA 3 k) from HR5.out.keep (fun b hb => by rw [hW]; exact heap_setCell_other W5 ⟨P, 9, none⟩ b _ (by simpa using hb.2.2)) (fun b hb => by rw [hW]; simpa using hb))
        rw [← hW]
        clear hW k9 f9
        have hbc := beast_card hc hk HL.out.1 HL.out.2 HR6.out (beast_cost hc hk HQ.out.1) (show (pw + 1) = (beastC _ k).power from by rw [HV.out.1, HQ.out.2.1]; show _ = pairs8 k + 1; rw [pairs_half k hk]; omega) (show tg = (beastC _ k).tough from by rw [HV.out.2.1, HQ.out.2.2]; show _ = tough8 k + 0; rw [tough_half k hk]; omega) (show sy = (beastC _ k).says from HV.out.2.2)
        have HB := Lib.hid hbc
        have hsx := cq_info hbc
        have hcs := cq_size hbc
        have h1 := cq_one hbc
        clear hbc
        go_wp2_with (first
          | (refine wpList_load_row rfl 55 (.tmp 5) rfl P rfl 55 _ (0, 0) _ hC6 Tryd.underlying55 rfl hsx ?_)
          | (refine wpList_store_row rfl 55 _ _ rfl w.heap.size _ rfl rfl 55 zeroD (hA6).z hsx (by rw [hcs]; rfl) h1 ?_))
        exact card_end (p := 4) (by kernel_rfl) rfl rfl hA6 (HB.out.keep (fun _ _ => rfl) (fun _ hb => ⟨hb.1, hb.2.1⟩)) rfl
      · have d3 : ((c : Int) == 3) = false := by simp; omega
        by_cases h4 : c = 4
        · subst h4
          have k9 : W5.cell? ⟨P, 10, none⟩ = some (.int .i64 tg) := by rw [hC5.cell]; exact cd_tough
          have f9 := frozen_of_row W5 P 10 _ _ hC5
          rw [show ((4 : Nat) : Int) = 4 from rfl]
          go_upto_region 7 with fail
          obtain ⟨W6, hW⟩ : ∃ W, W = W5.setCell ⟨P, 10, none⟩ (.int .i64 (tg + 1)) := ⟨_, rfl⟩
          have hC6 : CdAt W6 P (cardC ⟨1, ((4 : Nat) : Int), false, priceF 4 (1 + (q4 : Int)) (k : Int), pw, tg + 1, sy, []⟩ A (beastA 4 k).length cc) := by
            rw [hW]; have := heap_setCell_same W5 P 10 _ _ (.int .i64 (tg + 1)) hC5; rw [set_tough] at this; exact this
          have hA6 : EAcc w zeroD 55 W6 [] := by rw [hW]; exact HL5.out.setCell hPl
          have HR6 := Lib.hid (show RdAQ (fun b => w.heap.size + 1 ≤ b ∧ b < W6.heap.size ∧ b ≠ P) W6 2 A (beastA 4 k) from HR5.out.keep (fun b hb => by rw [hW]; exact heap_setCell_other W5 ⟨P, 10, none⟩ b _ (by simpa using hb.2.2)) (fun b hb => by rw [hW]; simpa using hb))
          rw [← hW]
          clear hW k9 f9
          have hbc := beast_card hc hk HL.out.1 HL.out.2 HR6.out (beast_cost hc hk HQ.out.1) (show pw = (beastC _ k).power from by rw [HV.out.1, HQ.out.2.1]; show _ = pairs8 k + 0; rw [pairs_half k hk]; omega) (show (tg + 1) = (beastC _ k).tough from by rw [HV.out.2.1, HQ.out.2.2]; show _ = tough8 k + 1; rw [tough_half k hk]; omega) (show sy = (beastC _ k).says from HV.out.2.2)
          have HB := Lib.hid hbc
          have hsx := cq_info hbc
          have hcs := cq_size hbc
          have h1 := cq_one hbc
          clear hbc
          go_wp2_with (first
            | (refine wpList_load_row rfl 55 (.tmp 5) rfl P rfl 55 _ (0, 0) _ hC6 Tryd.underlying55 rfl hsx ?_)
            | (refine wpList_store_row rfl 55 _ _ rfl w.heap.size _ rfl rfl 55 zeroD (hA6).z hsx (by rw [hcs]; rfl) h1 ?_))
          exact card_end (p := 4) (by kernel_rfl) rfl rfl hA6 (HB.out.keep (fun _ _ => rfl) (fun _ hb => ⟨hb.1, hb.2.1⟩)) rfl
        · have d4 : ((c : Int) == 4) = false := by simp; omega
          go_upto_region 7 with fail
          have HN := Lib.hid (And.intro h3 h4)
          clear h3 h4
          have hbc := beast_card hc hk HL.out.1 HL.out.2 HR5.out (beast_cost hc hk HQ.out.1) (show pw = (beastC _ k).power from by rw [HV.out.1, HQ.out.2.1]; show _ = pairs8 k + (if c = 3 then 1 else 0); rw [if_neg HN.out.1, pairs_half k hk]; omega) (show tg = (beastC _ k).tough from by rw [HV.out.2.1, HQ.out.2.2]; show _ = tough8 k + (if c = 4 then 1 else 0); rw [if_neg HN.out.2, tough_half k hk]; omega) (show sy = (beastC _ k).says from HV.out.2.2)
          have HB := Lib.hid hbc
          have hsx := cq_info hbc
          have hcs := cq_size hbc
          have h1 := cq_one hbc
          clear hbc
          go_wp2_with (first
            | (refine wpList_load_row rfl 55 (.tmp 5) rfl P rfl 55 _ (0, 0) _ hC5 Tryd.underlying55 rfl hsx ?_)
            | (refine wpList_store_row rfl 55 _ _ rfl w.heap.size _ rfl rfl 55 zeroD (hA5).z hsx (by rw [hcs]; rfl) h1 ?_))
          exact card_end (p := 4) (by kernel_rfl) rfl rfl hA5 (HB.out.keep (fun _ _ => rfl) (fun _ hb => ⟨hb.1, hb.2.1⟩)) rfl
    · skip
      go_simp
      obtain ⟨V2, hW⟩ : ∃ W, W = V1.alloc (.cells zeroD 55) := ⟨_, rfl⟩
      have hx : CdAt V2 V1.heap.size zeroD := by rw [hW]; exact CdAt.new _ _
      have hb' : Below V1.heap.size V1 V2 := by rw [hW]; exact (Below.refl _ _).alloc (Nat.le_refl _) _
      have hPl := hHeld.lt
      have hlx := hx.lt
      rw [← hW]
      clear hW
      replace hHeld := hHeld.step hb'
      refine hK.out _ _ hHeld (fun _ => ?_)
      clear hK K
      try simp only [Act.put, List.setIfInBounds_toArray, List.set_cons_zero, List.set_cons_succ]
      refine wpAnyH_ready (rs := [18]) (by kernel_rfl) (by simp) ?_
      refine AllReadyH.cons rfl (fun K hK => ?_) AllReadyH.nil
      simp only [List.getElem_toArray, List.getElem_cons_zero, List.getElem_cons_succ]
      go_simp
      refine (abs_any c k _ hc hk).mono ?_
      rintro e V3 ⟨A, cc, rfl, hl, hcm, hrd, hb'⟩
      go_wp2_with fail
      have hlo := hHeld.lt
      replace hHeld := hHeld.step hb'
      refine hK.out _ _ hHeld (fun _ => ?_)
      clear hK K
      try simp only [Act.put, List.setIfInBounds_toArray, List.set_cons_zero, List.set_cons_succ]
      replace hx := hx.keep hb'
      replace hrd := hrd.more (w' := V3) (Q' := fun b => w.heap.size + 1 ≤ b ∧ b < V3.heap.size ∧ b ≠ V1.heap.size) (Below.refl _ _) (fun b hb => ⟨hb.2, by omega⟩)
      refine wpAnyH_take (i := 19) (v := .agg (cardC ⟨1, (c : Int), false, priceF c (1 + (q4 : Int)) (k : Int), pw, tg, sy, []⟩ A (beastA c k).length cc)) rfl (by kernel_rfl) (by kernel_rfl) (by kernel_rfl) (fun _ _ _ h => h) (yields_card rfl rfl _ _ _ _ _ _ _ _ rfl rfl rfl rfl rfl rfl) hHeld ?_
      simp only [Act.put, List.getElem_toArray, List.getElem_cons_zero, List.getElem_cons_succ, List.setIfInBounds_toArray, List.set_cons_zero, List.set_cons_succ]
      have hs13 : (cardC ⟨1, (c : Int), false, priceF c (1 + (q4 : Int)) (k : Int), pw, tg, sy, []⟩ A (beastA c k).length cc).size = 13 := by simp [cardC, arr_size]
      refine wpAnyH_ready (rs := [21]) (by kernel_rfl) (by simp) ?_
      refine AllReadyH.cons rfl (fun K hK => ?_) AllReadyH.nil
      simp only [List.getElem_toArray, List.getElem_cons_zero, List.getElem_cons_succ]
      refine wp_store_row 55 (.tmp 5) (.tmp 25) rfl V1.heap.size (cardC ⟨1, (c : Int), false, priceF c (1 + (q4 : Int)) (k : Int), pw, tg, sy, []⟩ A (beastA c k).length cc) rfl rfl 55 zeroD hx (by rw [hs13]; exact size13) (by rw [hs13]; rfl) (card_one _ _ _ _) ?_
      refine hK.out _ _ (hHeld.setRow hPl) (fun _ => ?_)
      clear hK K
      try simp only [Act.put, List.setIfInBounds_toArray, List.set_cons_zero, List.set_cons_succ]
      refine wpAnyH_done (by kernel_rfl) ?_ _
      obtain ⟨W5, hW⟩ : ∃ W, W = V3.setRow V1.heap.size (cardC ⟨1, (c : Int), false, priceF c (1 + (q4 : Int)) (k : Int), pw, tg, sy, []⟩ A (beastA c k).length cc) := ⟨_, rfl⟩
      have hC5 : CdAt W5 V1.heap.size (cardC ⟨1, (c : Int), false, priceF c (1 + (q4 : Int)) (k : Int), pw, tg, sy, []⟩ A (beastA c k).length cc) := by rw [hW]; exact setRow_heap _ _ _ _ _ _ hx
      have HR5 := Lib.hid (show RdAQ (fun b => w.heap.size + 1 ≤ b ∧ b < W5.heap.size ∧ b ≠ V1.heap.size) W5 2 A (beastA c k) from hrd.keep (fun b hb => by rw [hW]; exact setRow_other _ _ _ _ hb.2.2) (fun b hb => by rw [hW, setRow_size]; exact hb))
      have hA5 : EAcc w zeroD 55 W5 [] := by rw [hW]; exact hHeld.setRow hPl
      rw [← hW]
      clear hW hHeld hx hrd hacc hs13
      obtain ⟨P, hP⟩ : ∃ P, P = V1.heap.size := ⟨_, rfl⟩
      rw [← hP] at hC5 HR5 hPl ⊢
      clear hP
      have HL := Lib.hid (And.intro hl hcm)
      have HL5 := Lib.hid hA5
      clear hl hcm
      go_upto_region 3 with fail
      by_cases h3 : c = 3
      · subst h3
        have k9 : W5.cell? ⟨P, 9, none⟩ = some (.int .i64 pw) := by rw [hC5.cell]; exact cd_power
        have f9 := frozen_of_row W5 P 9 _ _ hC5
        rw [show ((3 : Nat) : Int) = 3 from rfl]
        go_upto_region 7 with fail
        obtain ⟨W6, hW⟩ : ∃ W, W = W5.setCell ⟨P, 9, none⟩ (.int .i64 (pw + 1)) := ⟨_, rfl⟩
        have hC6 : CdAt W6 P (cardC ⟨1, ((3 : Nat) : Int), false, priceF 3 (1 + (q4 : Int)) (k : Int), pw + 1, tg, sy, []⟩ A (beastA 3 k).length cc) := by
          rw [hW]; have := heap_setCell_same W5 P 9 _ _ (.int .i64 (pw + 1)) hC5; rw [set_power] at this; exact this
        have hA6 : EAcc w zeroD 55 W6 [] := by rw [hW]; exact HL5.out.setCell hPl
        have HR6 := Lib.hid (show RdAQ (fun b => w.heap.size + 1 ≤ b ∧ b < W6.heap.size ∧ b ≠ P) W6 2 A (beastA 3 k) from HR5.out.keep (fun b hb => by rw [hW]; exact heap_setCell_other W5 ⟨P, 9, none⟩ b _ (by simpa using hb.2.2)) (fun b hb => by rw [hW]; simpa using hb))
        rw [← hW]
        clear hW k9 f9
        have hbc := beast_card hc hk HL.out.1 HL.out.2 HR6.out (beast_cost hc hk HQ.out.1) (show (pw + 1) = (beastC _ k).power from by rw [HV.out.1, HQ.out.2.1]; show _ = pairs8 k + 1; rw [pairs_half k hk]; omega) (show tg = (beastC _ k).tough from by rw [HV.out.2.1, HQ.out.2.2]; show _ = tough8 k + 0; rw [tough_half k hk]; omega) (show sy = (beastC _ k).says from HV.out.2.2)
        have HB := Lib.hid hbc
        have hsx := cq_info hbc
        have hcs := cq_size hbc
        have h1 := cq_one hbc
        clear hbc
        go_wp2_with (first
          | (refine wpList_load_row rfl 55 (.tmp 5) rfl P rfl 55 _ (0, 0) _ hC6 Tryd.underlying55 rfl hsx ?_)
          | (refine wpList_store_row rfl 55 _ _ rfl w.heap.size _ rfl rfl 55 zeroD (hA6).z hsx (by rw [hcs]; rfl) h1 ?_))
        exact card_end (p := 4) (by kernel_rfl) rfl rfl hA6 (HB.out.keep (fun _ _ => rfl) (fun _ hb => ⟨hb.1, hb.2.1⟩)) rfl
      · have d3 : ((c : Int) == 3) = false := by simp; omega
        by_cases h4 : c = 4
        · subst h4
          have k9 : W5.cell? ⟨P, 10, none⟩ = some (.int .i64 tg) := by rw [hC5.cell]; exact cd_tough
          have f9 := frozen_of_row W5 P 10 _ _ hC5
          rw [show ((4 : Nat) : Int) = 4 from rfl]
          go_upto_region 7 with fail
          obtain ⟨W6, hW⟩ : ∃ W, W = W5.setCell ⟨P, 10, none⟩ (.int .i64 (tg + 1)) := ⟨_, rfl⟩
          have hC6 : CdAt W6 P (cardC ⟨1, ((4 : Nat) : Int), false, priceF 4 (1 + (q4 : Int)) (k : Int), pw, tg + 1, sy, []⟩ A (beastA 4 k).length cc) := by
            rw [hW]; have := heap_setCell_same W5 P 10 _ _ (.int .i64 (tg + 1)) hC5; rw [set_tough] at this; exact this
          have hA6 : EAcc w zeroD 55 W6 [] := by rw [hW]; exact HL5.out.setCell hPl
          have HR6 := Lib.hid (show RdAQ (fun b => w.heap.size + 1 ≤ b ∧ b < W6.heap.size ∧ b ≠ P) W6 2 A (beastA 4 k) from HR5.out.keep (fun b hb => by rw [hW]; exact heap_setCell_other W5 ⟨P, 10, none⟩ b _ (by simpa using hb.2.2)) (fun b hb => by rw [hW]; simpa using hb))
          rw [← hW]
          clear hW k9 f9
          have hbc := beast_card hc hk HL.out.1 HL.out.2 HR6.out (beast_cost hc hk HQ.out.1) (show pw = (beastC _ k).power from by rw [HV.out.1, HQ.out.2.1]; show _ = pairs8 k + 0; rw [pairs_half k hk]; omega) (show (tg + 1) = (beastC _ k).tough from by rw [HV.out.2.1, HQ.out.2.2]; show _ = tough8 k + 1; rw [tough_half k hk]; omega) (show sy = (beastC _ k).says from HV.out.2.2)
          have HB := Lib.hid hbc
          have hsx := cq_info hbc
          have hcs := cq_size hbc
          have h1 := cq_one hbc
          clear hbc
          go_wp2_with (first
            | (refine wpList_load_row rfl 55 (.tmp 5) rfl P rfl 55 _ (0, 0) _ hC6 Tryd.underlying55 rfl hsx ?_)
            | (refine wpList_store_row rfl 55 _ _ rfl w.heap.size _ rfl rfl 55 zeroD (hA6).z hsx (by rw [hcs]; rfl) h1 ?_))
          exact card_end (p := 4) (by kernel_rfl) rfl rfl hA6 (HB.out.keep (fun _ _ => rfl) (fun _ hb => ⟨hb.1, hb.2.1⟩)) rfl
        · have d4 : ((c : Int) == 4) = false := by simp; omega
          go_upto_region 7 with fail
          have HN := Lib.hid (And.intro h3 h4)
          clear h3 h4
          have hbc := beast_card hc hk HL.out.1 HL.out.2 HR5.out (beast_cost hc hk HQ.out.1) (show pw = (beastC _ k).power from by rw [HV.out.1, HQ.out.2.1]; show _ = pairs8 k + (if c = 3 then 1 else 0); rw [if_neg HN.out.1, pairs_half k hk]; omega) (show tg = (beastC _ k).tough from by rw [HV.out.2.1, HQ.out.2.2]; show _ = tough8 k + (if c = 4 then 1 else 0); rw [if_neg HN.out.2, tough_half k hk]; omega) (show sy = (beastC _ k).says from HV.out.2.2)
          have HB := Lib.hid hbc
          have hsx := cq_info hbc
          have hcs := cq_size hbc
          have h1 := cq_one hbc
          clear hbc
          go_wp2_with (first
            | (refine wpList_load_row rfl 55 (.tmp 5) rfl P rfl 55 _ (0, 0) _ hC5 Tryd.underlying55 rfl hsx ?_)
            | (refine wpList_store_row rfl 55 _ _ rfl w.heap.size _ rfl rfl 55 zeroD (hA5).z hsx (by rw [hcs]; rfl) h1 ?_))
          exact card_end (p := 4) (by kernel_rfl) rfl rfl hA5 (HB.out.keep (fun _ _ => rfl) (fun _ hb => ⟨hb.1, hb.2.1⟩)) rfl
  · skip
    go_simp
    obtain ⟨V1, hW⟩ : ∃ W, W = V0.alloc (.cells zeroD 55) := ⟨_, rfl⟩
    have hx : CdAt V1 V0.heap.size zeroD := by rw [hW]; exact CdAt.new _ _
    have hb' : Below V0.heap.size V0 V1 := by rw [hW]; exact (Below.refl _ _).alloc (Nat.le_refl _) _
    have hPl := hHeld.lt
    have hlx := hx.lt
    rw [← hW]
    clear hW
    replace hHeld := hHeld.step hb'
    refine hK.out _ _ hHeld (fun _ => ?_)
    clear hK K
    try simp only [Act.put, List.setIfInBounds_toArray, List.set_cons_zero, List.set_cons_succ]
    refine wpAnyH_ready (rs := [6]) (by kernel_rfl) (by simp) ?_
    refine AllReadyH.cons rfl (fun K hK => ?_) AllReadyH.nil
    simp only [List.getElem_toArray, List.getElem_cons_zero, List.getElem_cons_succ]
    go_simp
    refine (mk_price c (1 + (q4 : Int)) (k : Int) _ (by omega) (by omega) (by omega) (by omega) (by omega)).mono ?_
    rintro e V2 ⟨rfl, hb'⟩
    go_wp2_with fail
    replace hHeld := hHeld.step hb'
    refine hK.out _ _ hHeld (fun _ => ?_)
    clear hK K
    try simp only [Act.put, List.setIfInBounds_toArray, List.set_cons_zero, List.set_cons_succ]
    replace hx := hx.keep hb'
    have hs2 := hb'.size
    refine wpAnyH_ready (rs := [18]) (by kernel_rfl) (by simp) ?_
    refine AllReadyH.cons rfl (fun K hK => ?_) AllReadyH.nil
    simp only [List.getElem_toArray, List.getElem_cons_zero, List.getElem_cons_succ]
    go_simp
    refine (abs_any c k _ hc hk).mono ?_
    rintro e V3 ⟨A, cc, rfl, hl, hcm, hrd, hb'⟩
    go_wp2_with fail
    have hlo := hHeld.lt
    replace hHeld := hHeld.step hb'
    refine hK.out _ _ hHeld (fun _ => ?_)
    clear hK K
    try simp only [Act.put, List.setIfInBounds_toArray, List.set_cons_zero, List.set_cons_succ]
    replace hx := hx.keep hb'
    replace hrd := hrd.more (w' := V3) (Q' := fun b => w.heap.size + 1 ≤ b ∧ b < V3.heap.size ∧ b ≠ V0.heap.size) (Below.refl _ _) (fun b hb => ⟨hb.2, by omega⟩)
    refine wpAnyH_take (i := 19) (v := .agg (cardC ⟨1, (c : Int), false, priceF c (1 + (q4 : Int)) (k : Int), pw, tg, sy, []⟩ A (beastA c k).length cc)) rfl (by kernel_rfl) (by kernel_rfl) (by kernel_rfl) (fun _ _ _ h => h) (yields_card rfl rfl _ _ _ _ _ _ _ _ rfl rfl rfl rfl rfl rfl) hHeld ?_
    simp only [Act.put, List.getElem_toArray, List.getElem_cons_zero, List.getElem_cons_succ, List.setIfInBounds_toArray, List.set_cons_zero, List.set_cons_succ]
    have hs13 : (cardC ⟨1, (c : Int), false, priceF c (1 + (q4 : Int)) (k : Int), pw, tg, sy, []⟩ A (beastA c k).length cc).size = 13 := by simp [cardC, arr_size]
    refine wpAnyH_ready (rs := [21]) (by kernel_rfl) (by simp) ?_
    refine AllReadyH.cons rfl (fun K hK => ?_) AllReadyH.nil
    simp only [List.getElem_toArray, List.getElem_cons_zero, List.getElem_cons_succ]
    refine wp_store_row 55 (.tmp 5) (.tmp 25) rfl V0.heap.size (cardC ⟨1, (c : Int), false, priceF c (1 + (q4 : Int)) (k : Int), pw, tg, sy, []⟩ A (beastA c k).length cc) rfl rfl 55 zeroD hx (by rw [hs13]; exact size13) (by rw [hs13]; rfl) (card_one _ _ _ _) ?_
    refine hK.out _ _ (hHeld.setRow hPl) (fun _ => ?_)
    clear hK K
    try simp only [Act.put, List.setIfInBounds_toArray, List.set_cons_zero, List.set_cons_succ]
    refine wpAnyH_done (by kernel_rfl) ?_ _
    obtain ⟨W5, hW⟩ : ∃ W, W = V3.setRow V0.heap.size (cardC ⟨1, (c : Int), false, priceF c (1 + (q4 : Int)) (k : Int), pw, tg, sy, []⟩ A (beastA c k).length cc) := ⟨_, rfl⟩
    have hC5 : CdAt W5 V0.heap.size (cardC ⟨1, (c : Int), false, priceF c (1 + (q4 : Int)) (k : Int), pw, tg, sy, []⟩ A (beastA c k).length cc) := by rw [hW]; exact setRow_heap _ _ _ _ _ _ hx
    have HR5 := Lib.hid (show RdAQ (fun b => w.heap.size + 1 ≤ b ∧ b < W5.heap.size ∧ b ≠ V0.heap.size) W5 2 A (beastA c k) from hrd.keep (fun b hb => by rw [hW]; exact setRow_other _ _ _ _ hb.2.2) (fun b hb => by rw [hW, setRow_size]; exact hb))
    have hA5 : EAcc w zeroD 55 W5 [] := by rw [hW]; exact hHeld.setRow hPl
    rw [← hW]
    clear hW hHeld hx hrd hacc hs13
    obtain ⟨P, hP⟩ : ∃ P, P = V0.heap.size := ⟨_, rfl⟩
    rw [← hP] at hC5 HR5 hPl ⊢
    clear hP
    have HL := Lib.hid (And.intro hl hcm)
    have HL5 := Lib.hid hA5
    clear hl hcm
    go_upto_region 3 with fail
    by_cases h3 : c = 3
    · subst h3
      have k9 : W5.cell? ⟨P, 9, none⟩ = some (.int .i64 pw) := by rw [hC5.cell]; exact cd_power
      have f9 := frozen_of_row W5 P 9 _ _ hC5
      rw [show ((3 : Nat) : Int) = 3 from rfl]
      go_upto_region 7 with fail
      obtain ⟨W6, hW⟩ : ∃ W, W = W5.setCell ⟨P, 9, none⟩ (.int .i64 (pw + 1)) := ⟨_, rfl⟩
      have hC6 : CdAt W6 P (cardC ⟨1, ((3 : Nat) : Int), false, priceF 3 (1 + (q4 : Int)) (k : Int), pw + 1, tg, sy, []⟩ A (beastA 3 k).length cc) := by
        rw [hW]; have := heap_setCell_same W5 P 9 _ _ (.int .i64 (pw + 1)) hC5; rw [set_power] at this; exact this
      have hA6 : EAcc w zeroD 55 W6 [] := by rw [hW]; exact HL5.out.setCell hPl
      have HR6 := Lib.hid (show RdAQ (fun b => w.heap.size + 1 ≤ b ∧ b < W6.heap.size ∧ b ≠ P) W6 2 A (beastA 3 k) from HR5.out.keep (fun b hb => by rw [hW]; exact heap_setCell_other W5 ⟨P, 9, none⟩ b _ (by simpa using hb.2.2)) (fun b hb => by rw [hW]; simpa using hb))
      rw [← hW]
      clear hW k9 f9
      have hbc := beast_card hc hk HL.out.1 HL.out.2 HR6.out (beast_cost hc hk HQ.out.1) (show (pw + 1) = (beastC _ k).power from by rw [HV.out.1, HQ.out.2.1]; show _ = pairs8 k + 1; rw [pairs_half k hk]; omega) (show tg = (beastC _ k).tough from by rw [HV.out.2.1, HQ.out.2.2]; show _ = tough8 k + 0; rw [tough_half k hk]; omega) (show sy = (beastC _ k).says from HV.out.2.2)
      have HB := Lib.hid hbc
      have hsx := cq_info hbc
      have hcs := cq_size hbc
      have h1 := cq_one hbc
      clear hbc
      go_wp2_with (first
        | (refine wpList_load_row rfl 55 (.tmp 5) rfl P rfl 55 _ (0, 0) _ hC6 Tryd.underlying55 rfl hsx ?_)
        | (refine wpList_store_row rfl 55 _ _ rfl w.heap.size _ rfl rfl 55 zeroD (hA6).z hsx (by rw [hcs]; rfl) h1 ?_))
      exact card_end (p := 4) (by kernel_rfl) rfl rfl hA6 (HB.out.keep (fun _ _ => rfl) (fun _ hb => ⟨hb.1, hb.2.1⟩)) rfl
    · have d3 : ((c : Int) == 3) = false := by simp; omega
      by_cases h4 : c = 4
      · subst h4
        have k9 : W5.cell? ⟨P, 10, none⟩ = some (.int .i64 tg) := by rw [hC5.cell]; exact cd_tough
        have f9 := frozen_of_row W5 P 10 _ _ hC5
        rw [show ((4 : Nat) : Int) = 4 from rfl]
        go_upto_region 7 with fail
        obtain ⟨W6, hW⟩ : ∃ W, W = W5.setCell ⟨P, 10, none⟩ (.int .i64 (tg + 1)) := ⟨_, rfl⟩
        have hC6 : CdAt W6 P (cardC ⟨1, ((4 : Nat) : Int), false, priceF 4 (1 + (q4 : Int)) (k : Int), pw, tg + 1, sy, []⟩ A (beastA 4 k).length cc) := by
          rw [hW]; have := heap_setCell_same W5 P 10 _ _ (.int .i64 (tg + 1)) hC5; rw [set_tough] at this; exact this
        have hA6 : EAcc w zeroD 55 W6 [] := by rw [hW]; exact HL5.out.setCell hPl
        have HR6 := Lib.hid (show RdAQ (fun b => w.heap.size + 1 ≤ b ∧ b < W6.heap.size ∧ b ≠ P) W6 2 A (beastA 4 k) from HR5.out.keep (fun b hb => by rw [hW]; exact heap_setCell_other W5 ⟨P, 10, none⟩ b _ (by simpa using hb.2.2)) (fun b hb => by rw [hW]; simpa using hb))
        rw [← hW]
        clear hW k9 f9
        have hbc := beast_card hc hk HL.out.1 HL.out.2 HR6.out (beast_cost hc hk HQ.out.1) (show pw = (beastC _ k).power from by rw [HV.out.1, HQ.out.2.1]; show _ = pairs8 k + 0; rw [pairs_half k hk]; omega) (show (tg + 1) = (beastC _ k).tough from by rw [HV.out.2.1, HQ.out.2.2]; show _ = tough8 k + 1; rw [tough_half k hk]; omega) (show sy = (beastC _ k).says from HV.out.2.2)
        have HB := Lib.hid hbc
        have hsx := cq_info hbc
        have hcs := cq_size hbc
        have h1 := cq_one hbc
        clear hbc
        go_wp2_with (first
          | (refine wpList_load_row rfl 55 (.tmp 5) rfl P rfl 55 _ (0, 0) _ hC6 Tryd.underlying55 rfl hsx ?_)
          | (refine wpList_store_row rfl 55 _ _ rfl w.heap.size _ rfl rfl 55 zeroD (hA6).z hsx (by rw [hcs]; rfl) h1 ?_))
        exact card_end (p := 4) (by kernel_rfl) rfl rfl hA6 (HB.out.keep (fun _ _ => rfl) (fun _ hb => ⟨hb.1, hb.2.1⟩)) rfl
      · have d4 : ((c : Int) == 4) = false := by simp; omega
        go_upto_region 7 with fail
        have HN := Lib.hid (And.intro h3 h4)
        clear h3 h4
        have hbc := beast_card hc hk HL.out.1 HL.out.2 HR5.out (beast_cost hc hk HQ.out.1) (show pw = (beastC _ k).power from by rw [HV.out.1, HQ.out.2.1]; show _ = pairs8 k + (if c = 3 then 1 else 0); rw [if_neg HN.out.1, pairs_half k hk]; omega) (show tg = (beastC _ k).tough from by rw [HV.out.2.1, HQ.out.2.2]; show _ = tough8 k + (if c = 4 then 1 else 0); rw [if_neg HN.out.2, tough_half k hk]; omega) (show sy = (beastC _ k).says from HV.out.2.2)
        have HB := Lib.hid hbc
        have hsx := cq_info hbc
        have hcs := cq_size hbc
        have h1 := cq_one hbc
        clear hbc
        go_wp2_with (first
          | (refine wpList_load_row rfl 55 (.tmp 5) rfl P rfl 55 _ (0, 0) _ hC5 Tryd.underlying55 rfl hsx ?_)
          | (refine wpList_store_row rfl 55 _ _ rfl w.heap.size _ rfl rfl 55 zeroD (hA5).z hsx (by rw [hcs]; rfl) h1 ?_))
        exact card_end (p := 4) (by kernel_rfl) rfl rfl hA5 (HB.out.keep (fun _ _ => rfl) (fun _ hb => ⟨hb.1, hb.2.1⟩)) rfl
end Go.Proofs.YtplfblccaeligaaDoor
namespace Go.Proofs.YtplfblccaeligaaDoor
open Go.RowKit Ex Mx
set_option maxRecDepth 100000
theorem wpList_index_of {ops : Array Oper} {rest : List Oper} {o : Oper} {a : Act} {w : World} {Q : Exit → Act → World → Prop} (hg : o.guard = none) {x y : Operand} (ho : o.op = .index 113 x y) {u : Nat → Array Value} {v : Array Value} {c : Nat}
    (hv : v = u 0 ++ u 1 ++ u 2 ++ u 3 ++ u 4) (ex : a.eval x = .agg v) (ey : a.eval y = .int .i64 (c : Int)) (hu : ∀ c < 5, (u c).size = 14) (hc : c < 5)
    (hK : wpList Tryd.prog ops Q rest (a.put o.dst (.agg (u c))) w) : wpList Tryd.prog ops Q (o :: rest) a w := by
  subst hv
  exact wpList_index_five hg ho ex ey hu hc hK
theorem wide_pr {c : Nat} {v : Int} (hc : c < 5) (h0 : 0 ≤ v) (h1 : v ≤ 100) : Wide (priceF c 1 v) := fun i _ => by
  rw [price_lo hc]
  simp only [updI, noC]
  split
  · omega
  · split <;> decide
theorem wide_price {c k : Nat} (hc : c < 5) (hk : k < 6) : Wide (priceF c 1 (k : Int)) := wide_pr hc (by omega) (by omega)
theorem card_cells (q : Int) (l : List AbT) (A : Option Addr) (k c : Nat) : cardC ⟨0, q, false, noC, 0, 0, 0, []⟩ A k c = cardC ⟨0, q, false, noC, 0, 0, 0, l⟩ A k c := rfl
theorem made_src (n : Nat) (w : World) (h1 : n < 5) : Calls Tryd.prog 60 #[.int .i64 (n : Int)] w (CardR (tblC n) w) := by
  have d0 : decide ((n : Int) < 5) = true := by simp; omega
  have HT := Lib.hid (show tblC n = ⟨0, (n : Int), false, noC, 0, 0, 0, [giveA 1 n]⟩ by unfold tblC; rw [if_pos h1])
  go_enter Tryd.func60, Tryd.ntmps60
  go_upto_region 1 with fail
  obtain ⟨w0, hw⟩ : ∃ W, W = w.alloc (.cells zeroD 55) := ⟨_, rfl⟩
  have hacc : EAcc w zeroD 55 w0 [] := by rw [hw]; exact ⟨(Below.refl _ _).alloc (Nat.le_refl _) _, heap_alloc_new _ _, by simp⟩
  rw [← hw]
  clear hw
  go_wp2_with fail
  refine (mk_manaTap _ _ _).mono ?_
  rintro e w1 ⟨rfl, hb1⟩
  replace hacc := hacc.step hb1
  have hal : EAcc w zeroD 55 (w1.alloc (.cells (abC (giveA 1 (n : Int)) (evC 15 1 (n : Int) 0 none 0 0)) 79)) [] := hacc.step ((Below.refl _ _).alloc (Nat.le_refl _) _)
  have hG := AbAt.new w1 (abC (giveA 1 (n : Int)) (evC 15 1 (n : Int) 0 none 0 0))
  have hl1 := hacc.lt
  go_wp2_with (refine wpList_buildSlice_ab rfl _ rfl _ (abE_size _ _ _ _ _ _ _ _) rfl ?_)
  refine (mk_source _ _ _ _ _).mono ?_
  rintro e w3 ⟨rfl, hb3⟩
  replace hacc := hal.step hb3
  have hG3 := hG.keep hb3
  have hl3 := hG3.lt
  have hcs : (cardC ⟨0, (n : Int), false, noC, 0, 0, 0, []⟩ (some ⟨w1.heap.size, 0, none⟩) 1 1).size = 13 := by simp [cardC, arr_size]
  clear hG hal
  go_wp2_with (refine wpList_store_row rfl 55 _ _ rfl w.heap.size _ rfl rfl 55 zeroD hacc.z (by rw [hcs]; exact size13) (by rw [hcs]; rfl) (card_one _ _ _ _) ?_)
  refine card_end (p := 2) (c' := ⟨0, (n : Int), false, noC, 0, 0, 0, [giveA 1 n]⟩) (by kernel_rfl) rfl rfl hacc ?_ HT.out.symm
  exact ⟨in_0, ⟨by show _ ≤ (n : Int); omega, by show (n : Int) ≤ _; omega⟩, wide_no, in_0, in_0, in_0, _, 1, rfl, Nat.le_refl _, by unfold maxLen; simp,
    one_ab hG3 (flatSp 6 noC true 0 15 1 (n : Int) 0 ⟨by decide, by decide⟩ wide_no in_0 ⟨by decide, by decide⟩ in_1 ⟨by omega, by omega⟩ in_0 rfl) ⟨hl1, hl3⟩⟩
theorem made_src5 (n : Nat) (w : World) (h0 : 5 ≤ n) (h1 : n < 10) : Calls Tryd.prog 60 #[.int .i64 (n : Int)] w (CardR (tblC n) w) := by
  have d0 : decide ((n : Int) < 5) = false := by simp; omega
  have d1 : decide ((n : Int) < 10) = true := by simp; omega
  obtain ⟨k, hk⟩ : ∃ k, k = n - 5 := ⟨_, rfl⟩
  obtain ⟨q, hq⟩ : ∃ q, q = k / 2 := ⟨_, rfl⟩
  have v0 : IntKind.i64.wrap ((n : Int) - 5) = (k : Int) := by rw [i64_in (by omega) (by omega)]; omega
  have r0 : (k : Int).tdiv 2 = (q : Int) := by rw [Int.tdiv_eq_ediv_of_nonneg (by omega)]; omega
  have hk5 : k < 5 := by omega
  have hq3 : q < 3 := by omega
  have HT := Lib.hid (show tblC n = ⟨0, 5, false, noC, 0, 0, 0, [⟨2, noC, false, 0, .node 3 (1 + (k : Int)) 0 0 []⟩, giveA (1 + (q : Int)) 5]⟩ by
    unfold tblC
    rw [if_neg (by omega), if_pos h1, ← hk, show ((n - 4 : Nat) : Int) = 1 + (k : Int) by omega, hq]
    match k, hk5 with
    | 0, _ => rfl
    | 1, _ => rfl
    | 2, _ => rfl
    | 3, _ => rfl
    | 4, _ => rfl)
  clear hk hq
  go_enter Tryd.func60, Tryd.ntmps60
  go_upto_region 1 with fail
  obtain ⟨w0, hw⟩ : ∃ W, W = w.alloc (.cells zeroD 55) := ⟨_, rfl⟩
  have hacc : EAcc w zeroD 55 w0 [] := by rw [hw]; exact ⟨(Below.refl _ _).alloc (Nat.le_refl _) _, heap_alloc_new _ _, by simp⟩
  rw [← hw]
  clear hw
  go_upto_region 5 with fail
  clear v0 d0 d1
  go_wp2_with fail
  refine (mk_effect _ _ _ _ _).mono ?_
  rintro e w1 ⟨rfl, hb1⟩
  go_wp2_with fail
  refine (mk_at _ _ _ _ _ _ _ _ _).mono ?_
  rintro e w2 ⟨rfl, hb2⟩
  rw [ab14]
  go_wp2_with fail
  refine (mk_manaTap _ _ _).mono ?_
  rintro e w3 ⟨rfl, hb3⟩
  rw [show abC (giveA (1 + (q : Int)) 5) (evC 15 (1 + (q : Int)) 5 0 none 0 0) = #[.int .i64 6, .int .i64 0, .int .i64 0, .int .i64 0, .int .i64 0, .int .i64 0, .int .i64 0, .bool true, .int .i64 0, .int .i64 15, .int .i64 (1 + (q : Int)), .int .i64 5, .int .i64 0, .slice none 0 0] from ab14 6 noC true 0 15 _ 5 0 none 0 0]
  replace hacc := ((hacc.step hb1).step hb2).step hb3
  have hl1 := hacc.lt
  have hal : ∀ o : Obj, EAcc w zeroD 55 (w3.alloc o) [] := fun o => hacc.step ((Below.refl _ _).alloc (Nat.le_refl _) _)
  go_wp2_with fail
  refine (mk_source _ _ _ _ _).mono ?_
  rintro e w4 ⟨rfl, hb4⟩
  replace hacc := (hal _).step hb4
  have hG := AbAt.keep (AbAt.new w3 _) hb4
  have hl3 := hG.lt
  have hcs : (cardC ⟨0, 5, false, noC, 0, 0, 0, []⟩ (some ⟨w3.heap.size, 0, none⟩) 2 2).size = 13 := by simp [cardC, arr_size]
  clear hal
  go_wp2_with (refine wpList_store_row rfl 55 _ _ rfl w.heap.size _ rfl rfl 55 zeroD hacc.z (by rw [hcs]; exact size13) (by rw [hcs]; rfl) (card_one _ _ _ _) ?_)
  refine card_end (p := 2) (c' := ⟨0, 5, false, noC, 0, 0, 0, [⟨2, noC, false, 0, .node 3 (1 + (k : Int)) 0 0 []⟩, giveA (1 + (q : Int)) 5]⟩) (by kernel_rfl) rfl rfl hacc ?_ HT.out.symm
  refine ⟨in_0, in_5, wide_no, in_0, in_0, in_0, _, 2, rfl, Nat.le_refl _, by unfold maxLen; simp, ?_⟩
  exact two_ab (ys := abC ⟨2, noC, false, 0, .node 3 (1 + (k : Int)) 0 0 []⟩ (evC 3 (1 + (k : Int)) 0 0 none 0 0)) (zs := abC (giveA (1 + (q : Int)) 5) (evC 15 (1 + (q : Int)) 5 0 none 0 0))
    (by rw [ab14, show abC (giveA (1 + (q : Int)) 5) (evC 15 (1 + (q : Int)) 5 0 none 0 0) = _ from ab14 6 noC true 0 15 _ 5 0 none 0 0]; exact hG)
    (flatSp _ _ _ _ _ _ _ _ in_2 wide_no in_0 in_3 ⟨by omega, by omega⟩ in_0 in_0 rfl) (flatSp 6 noC true 0 15 _ 5 0 ⟨by decide, by decide⟩ wide_no in_0 ⟨by decide, by decide⟩ ⟨by omega, by omega⟩ in_5 in_0 rfl) ⟨hl1, hl3⟩
theorem made_beast (n : Nat) (w : World) (h0 : 10 ≤ n) (h1 : n < 50) : Calls Tryd.prog 60 #[.int .i64 (n : Int)] w (CardR (tblC n) w) := by
  have d0 : decide ((n : Int) < 5) = false := by simp; omega
  have d1 : decide ((n : Int) < 10) = false := by simp; omega
  have d2 : decide ((n : Int) < 50) = true := by simp; omega
  obtain ⟨x, hx⟩ : ∃ x, x = n - 10 := ⟨_, rfl⟩
  have v0 : IntKind.i64.wrap ((n : Int) - 10) = (x : Int) := by rw [i64_in (by omega) (by omega)]; omega
  have hx4 : x < 40 := by omega
  have HT := Lib.hid (show beastC (x % 5) (x / 5) = tblC n by
    have ht : tblC n = ⟨1, ((n % 5 : Nat) : Int), false, updI (updI noC (n % 5) (if 3 < (n - 10) / 5 then 2 else 1)) 5 (((n - 10) / 5 : Nat) : Int), pairs8 ((n - 10) / 5) + (if n % 5 = 3 then 1 else 0), tough8 ((n - 10) / 5) + (if n % 5 = 4 then 1 else 0), says8 ((n - 10) / 5), beastA (n % 5) ((n - 10) / 5)⟩ := by
      unfold tblC; rw [if_neg (by omega), if_neg (by omega), if_pos h1]
    rw [ht, ← hx, show n % 5 = x % 5 by omega]
    rfl)
  clear hx h0 h1
  go_enter Tryd.func60, Tryd.ntmps60
  go_upto_region 1 with fail
  obtain ⟨w0, hw⟩ : ∃ W, W = w.alloc (.cells zeroD 55) := ⟨_, rfl⟩
  have hacc : EAcc w zeroD 55 w0 [] := by rw [hw]; exact ⟨(Below.refl _ _).alloc (Nat.le_refl _) _, heap_alloc_new _ _, by simp⟩
  rw [← hw]
  clear hw
  have hacc0 := hacc
  go_wp2_with fail
  refine (mk_split x _ (by omega)).mono ?_
  rintro e w1 ⟨rfl, rfl⟩
  go_wp2_with fail
  refine (beast_any (x % 5) (x / 5) _ (by omega) (by omega)).mono ?_
  rintro e w9 ⟨cs, rfl, hr, hb9⟩
  replace hacc := hacc.step hb9
  have hsx := cq_info hr
  have hcs := cq_size hr
  have h1 := cq_one hr
  have HR := Lib.hid hr
  clear hr
  go_wp2_with (refine wpList_store_row rfl 55 _ _ rfl w.heap.size cs rfl rfl 55 zeroD hacc.z hsx (by rw [hcs]; rfl) h1 ?_)
  exact card_end (p := 2) (by kernel_rfl) rfl rfl hacc (HR.out.keep (fun _ _ => rfl) (fun _ hb => ⟨Nat.lt_of_lt_of_le hacc0.lt hb.1, hb.2⟩)) HT.out
theorem made_single (n : Nat) (w : World) (h0 : 100 ≤ n) (h1 : n < 112) : Calls Tryd.prog 60 #[.int .i64 (n : Int)] w (CardR (tblC n) w) := by
  have d0 : decide ((n : Int) < 5) = false := by simp; omega
  have d1 : decide ((n : Int) < 10) = false := by simp; omega
  have d2 : decide ((n : Int) < 50) = false := by simp; omega
  have d3 : decide ((n : Int) < 80) = false := by simp; omega
  have d4 : decide ((n : Int) < 100) = false := by simp; omega
  have d5 : decide ((n : Int) < 112) = true := by simp; omega
  go_enter Tryd.func60, Tryd.ntmps60
  go_upto_region 1 with fail
  obtain ⟨w0, hw⟩ : ∃ W, W = w.alloc (.cells zeroD 55) := ⟨_, rfl⟩
  have hacc : EAcc w zeroD 55 w0 [] := by rw [hw]; exact ⟨(Below.refl _ _).alloc (Nat.le_refl _) _, heap_alloc_new _ _, by simp⟩
  rw [← hw]
  clear hw
  have hacc0 := hacc
  go_wp2_with fail
  have hs := single_any (n - 100) w0 (by omega)
  rw [show 100 + (n - 100) = n by omega] at hs
  refine hs.mono ?_
  rintro e w9 ⟨cs, rfl, hr, hb9⟩
  replace hacc := hacc.step hb9
  have hsx := cq_info hr
  have hcs := cq_size hr
  have h1 := cq_one hr
  have HR := Lib.hid hr
  clear hr
  go_wp2_with (refine wpList_store_row rfl 55 _ _ rfl w.heap.size cs rfl rfl 55 zeroD hacc.z hsx (by rw [hcs]; rfl) h1 ?_)
  exact card_end (p := 2) (by kernel_rfl) rfl rfl hacc (HR.out.keep (fun _ _ => rfl) (fun _ hb => ⟨Nat.lt_of_lt_of_le hacc0.lt hb.1, hb.2⟩)) rfl
theorem made_token (n : Nat) (w : World) (h0 : 112 ≤ n) (h1 : n < 120) : Calls Tryd.prog 60 #[.int .i64 (n : Int)] w (CardR (tblC n) w) := by
  have d0 : decide ((n : Int) < 5) = false := by simp; omega
  have d1 : decide ((n : Int) < 10) = false := by simp; omega
  have d2 : decide ((n : Int) < 50) = false := by simp; omega
  have d3 : decide ((n : Int) < 80) = false := by simp; omega
  have d4 : decide ((n : Int) < 100) = false := by simp; omega
  have d5 : decide ((n : Int) < 112) = false := by simp; omega
  obtain ⟨k, hk⟩ : ∃ k, k = n - 112 := ⟨_, rfl⟩
  have v0 : IntKind.i64.wrap ((n : Int) - 112) = (k : Int) := by rw [i64_in (by omega) (by omega)]; omega
  have hk8 : k < 8 := by omega
  have HT := Lib.hid (show (⟨1, 5, false, noC, ((k / 2 + 1 : Nat) : Int), ((k / 2 + 1 : Nat) : Int), ((k % 2 : Nat) : Int), []⟩ : CardT) = tblC n by
    unfold tblC
    rw [if_neg (by omega), if_neg (by omega), if_neg (by omega), if_neg (by omega), if_neg (by omega), if_neg (by omega), ← hk, pairs_half k hk8, show n % 2 = k % 2 by omega])
  clear hk h0 h1
  go_enter Tryd.func60, Tryd.ntmps60
  go_upto_region 1 with fail
  obtain ⟨w0, hw⟩ : ∃ W, W = w.alloc (.cells zeroD 55) := ⟨_, rfl⟩
  have hacc : EAcc w zeroD 55 w0 [] := by rw [hw]; exact ⟨(Below.refl _ _).alloc (Nat.le_refl _) _, heap_alloc_new _ _, by simp⟩
  rw [← hw]
  clear hw
  have hacc0 := hacc
  go_wp2_with fail
  refine (mk_token k _ hk8).mono ?_
  rintro e w9 ⟨rfl, hb9⟩
  replace hacc := hacc.step hb9
  have hcs : (cardC ⟨1, 5, false, noC, ((k / 2 + 1 : Nat) : Int), ((k / 2 + 1 : Nat) : Int), ((k % 2 : Nat) : Int), []⟩ none 0 0).size = 13 := by simp [cardC, arr_size]
  have h1c := card_one ⟨1, 5, false, noC, ((k / 2 + 1 : Nat) : Int), ((k / 2 + 1 : Nat) : Int), ((k % 2 : Nat) : Int), []⟩ none 0 0
  obtain ⟨cs, he⟩ : ∃ cs, cs = cardC ⟨1, 5, false, noC, ((k / 2 + 1 : Nat) : Int), ((k / 2 + 1 : Nat) : Int), ((k % 2 : Nat) : Int), []⟩ none 0 0 := ⟨_, rfl⟩
  rw [← he] at hcs h1c ⊢
  have HE := Lib.hid he
  clear he
  go_wp2_with (refine wpList_store_row rfl 55 _ _ rfl w.heap.size cs rfl rfl 55 zeroD hacc.z (by rw [hcs]; exact size13) (by rw [hcs]; rfl) h1c ?_)
  refine card_end (p := 2) (c' := ⟨1, 5, false, noC, ((k / 2 + 1 : Nat) : Int), ((k / 2 + 1 : Nat) : Int), ((k % 2 : Nat) : Int), []⟩) (by kernel_rfl) rfl rfl hacc ?_ HT.out
  exact ⟨in_1, in_5, wide_no, ⟨by show _ ≤ ((k / 2 + 1 : Nat) : Int); omega, by show ((k / 2 + 1 : Nat) : Int) ≤ _; omega⟩, ⟨by show _ ≤ ((k / 2 + 1 : Nat) : Int); omega, by show ((k / 2 + 1 : Nat) : Int) ≤ _; omega⟩, ⟨by show _ ≤ ((k % 2 : Nat) : Int); omega, by show ((k % 2 : Nat) : Int) ≤ _; omega⟩, none, 0, HE.out, Nat.le_refl _, by unfold maxLen; simp, no_ab⟩
theorem made_magic (n : Nat) (w : World) (h0 : 50 ≤ n) (h1 : n < 80) : Calls Tryd.prog 60 #[.int .i64 (n : Int)] w (CardR (tblC n) w) := by
  have d0 : decide ((n : Int) < 5) = false := by simp; omega
  have d1 : decide ((n : Int) < 10) = false := by simp; omega
  have d2 : decide ((n : Int) < 50) = false := by simp; omega
  have d3 : decide ((n : Int) < 80) = true := by simp; omega
  obtain ⟨x, hx⟩ : ∃ x, x = n - 50 := ⟨_, rfl⟩
  have v0 : IntKind.i64.wrap ((n : Int) - 50) = (x : Int) := by rw [i64_in (by omega) (by omega)]; omega
  have hx3 : x < 30 := by omega
  obtain ⟨c, hc⟩ : ∃ c, c = x % 5 := ⟨_, rfl⟩
  obtain ⟨k, hk⟩ : ∃ c, c = x / 5 := ⟨_, rfl⟩
  obtain ⟨k2, hk2⟩ : ∃ c, c = k % 2 := ⟨_, rfl⟩
  have HT := Lib.hid (show (⟨2, (c : Int), ((k2 : Int) == 0), priceF c 1 (k : Int), 0, 0, 0, [spellT k c]⟩ : CardT) = tblC n by
    unfold tblC spellT
    rw [if_neg (by omega), if_neg (by omega), if_neg (by omega), if_pos h1, ← hx, show n % 5 = c by omega, ← hk, ← hk2, show 5 * k + c = x by omega, price_lo (by omega),
      show ((k2 : Int) == 0) = (k2 == 0) by
        have : k2 = 0 ∨ k2 = 1 := by omega
        rcases this with h | h <;> rw [h] <;> rfl])
  have hc5 : c < 5 := by omega
  have hk6 : k < 6 := by omega
  have hq2 : k2 < 2 := by omega
  have r2 : (k : Int).tmod 2 = (k2 : Int) := by rw [Int.tmod_eq_emod_of_nonneg (by omega)]; omega
  have hspl := fun W => mk_split x W (by omega)
  rw [← hc, ← hk] at hspl
  clear hx hc hk hk2 h0 h1
  go_enter Tryd.func60, Tryd.ntmps60
  go_upto_region 1 with fail
  obtain ⟨w0, hw⟩ : ∃ W, W = w.alloc (.cells zeroD 55) := ⟨_, rfl⟩
  have hacc : EAcc w zeroD 55 w0 [] := by rw [hw]; exact ⟨(Below.refl _ _).alloc (Nat.le_refl _) _, heap_alloc_new _ _, by simp⟩
  rw [← hw]
  clear hw
  go_wp2_with fail
  refine (hspl _).mono ?_
  rintro e w1 ⟨rfl, rfl⟩
  clear hspl
  go_wp2_with fail
  refine (mk_price c 1 (k : Int) _ (by omega) (by decide) (by decide) (by omega) (by omega)).mono ?_
  rintro e w2 ⟨rfl, hb2⟩
  replace hacc := hacc.step hb2
  have hacc0 := hacc
  go_wp2_with fail
  refine (spells_any k _ hk6).mono ?_
  rintro e w3 ⟨u, rfl, hu, hb3⟩
  obtain ⟨v, hv⟩ : ∃ v, v = u 0 ++ u 1 ++ u 2 ++ u 3 ++ u 4 := ⟨_, rfl⟩
  rw [← hv]
  have HV := Lib.hid hv
  clear hv
  replace hacc := hacc.step hb3
  have hs14 := fun c hc => (hu c hc).size
  have HU := Lib.hid hu
  clear hu
  go_wp2_with (refine wpList_index_of rfl rfl HV.out rfl rfl hs14 hc5 ?_)
  refine (mk_magic (c : Int) ((k2 : Int) == 0) (priceF c 1 (k : Int)) (spellT k c) _ w2.heap.size _ hb3.size ⟨by omega, by omega⟩ (wide_price hc5 hk6) (HU.out c hc5)).mono ?_
  clear hs14
  rintro e w9 ⟨cs, rfl, hr, hb9⟩
  replace hacc := hacc.step hb9
  have hsx := cq_info hr
  have hcs := cq_size hr
  have h1 := cq_one hr
  have HR := Lib.hid hr
  clear hr
  go_wp2_with (refine wpList_store_row rfl 55 _ _ rfl w.heap.size cs rfl rfl 55 zeroD hacc.z hsx (by rw [hcs]; rfl) h1 ?_)
  exact card_end (p := 2) (by kernel_rfl) rfl rfl hacc (HR.out.keep (fun _ _ => rfl) (fun _ hb => ⟨Nat.lt_of_lt_of_le hacc0.lt hb.1, hb.2⟩)) HT.out
theorem made_relic (n : Nat) (w : World) (h0 : 80 ≤ n) (h1 : n < 100) : Calls Tryd.prog 60 #[.int .i64 (n : Int)] w (CardR (tblC n) w) := by
  have d0 : decide ((n : Int) < 5) = false := by simp; omega
  have d1 : decide ((n : Int) < 10) = false := by simp; omega
  have d2 : decide ((n : Int) < 50) = false := by simp; omega
  have d3 : decide ((n : Int) < 80) = false := by simp; omega
  have d4 : decide ((n : Int) < 100) = true := by simp; omega
  obtain ⟨x, hx⟩ : ∃ x, x = n - 80 := ⟨_, rfl⟩
  have v0 : IntKind.i64.wrap ((n : Int) - 80) = (x : Int) := by rw [i64_in (by omega) (by omega)]; omega
  have hx3 : x < 20 := by omega
  obtain ⟨c, hc⟩ : ∃ c, c = x % 5 := ⟨_, rfl⟩
  obtain ⟨k, hk⟩ : ∃ c, c = x / 5 := ⟨_, rfl⟩
  have HT := Lib.hid (show (⟨3, (c : Int), false, priceF c 1 ((k : Int) + 1), 0, 0, 0, [relicT k c]⟩ : CardT) = tblC n by
    unfold tblC relicT
    rw [if_neg (by omega), if_neg (by omega), if_neg (by omega), if_neg (by omega), if_pos h1, ← hx, show n % 5 = c by omega, ← hk, show 5 * k + c = x by omega, price_lo (by omega), show ((k + 1 : Nat) : Int) = (k : Int) + 1 by omega])
  have hc5 : c < 5 := by omega
  have hk6 : k < 4 := by omega
  have hspl := fun W => mk_split x W (by omega)
  rw [← hc, ← hk] at hspl
  clear hx hc hk h0 h1
  go_enter Tryd.func60, Tryd.ntmps60
  go_upto_region 1 with fail
  obtain ⟨w0, hw⟩ : ∃ W, W = w.alloc (.cells zeroD 55) := ⟨_, rfl⟩
  have hacc : EAcc w zeroD 55 w0 [] := by rw [hw]; exact ⟨(Below.refl _ _).alloc (Nat.le_refl _) _, heap_alloc_new _ _, by simp⟩
  rw [← hw]
  clear hw
  go_wp2_with fail
  refine (hspl _).mono ?_
  rintro e w1 ⟨rfl, rfl⟩
  clear hspl
  go_wp2_with fail
  refine (mk_price c 1 ((k : Int) + 1) _ (by omega) (by decide) (by decide) (by omega) (by omega)).mono ?_
  rintro e w2 ⟨rfl, hb2⟩
  replace hacc := hacc.step hb2
  have hacc0 := hacc
  go_wp2_with fail
  refine (relics_any k _ hk6).mono ?_
  rintro e w3 ⟨u, rfl, hu, hb3⟩
  obtain ⟨v, hv⟩ : ∃ v, v = u 0 ++ u 1 ++ u 2 ++ u 3 ++ u 4 := ⟨_, rfl⟩
  rw [← hv]
  have HV := Lib.hid hv
  clear hv
  replace hacc := hacc.step hb3
  have hs14 := fun c hc => (hu c hc).size
  have HU := Lib.hid hu
  clear hu
  go_wp2_with (refine wpList_index_of rfl rfl HV.out rfl rfl hs14 hc5 ?_)
  refine (mk_relic (c : Int) (priceF c 1 ((k : Int) + 1)) (relicT k c) _ w2.heap.size _ hb3.size ⟨by omega, by omega⟩ (wide_pr hc5 (by omega) (by omega)) (HU.out c hc5)).mono ?_
  clear hs14
  rintro e w9 ⟨cs, rfl, hr, hb9⟩
  replace hacc := hacc.step hb9
  have hsx := cq_info hr
  have hcs := cq_size hr
  have h1 := cq_one hr
  have HR := Lib.hid hr
  clear hr
  go_wp2_with (refine wpList_store_row rfl 55 _ _ rfl w.heap.size cs rfl rfl 55 zeroD hacc.z hsx (by rw [hcs]; rfl) h1 ?_)
  exact card_end (p := 2) (by kernel_rfl) rfl rfl hacc (HR.out.keep (fun _ _ => rfl) (fun _ hb => ⟨Nat.lt_of_lt_of_le hacc0.lt hb.1, hb.2⟩)) HT.out
/-- The card of any number that there is. -/
theorem made_any (n : Nat) (w : World) (hn : n < 120) : Calls Tryd.prog 60 #[.int .i64 (n : Int)] w (CardR (tblC n) w) := by
  by_cases h5 : n < 5
  · exact made_src n w h5
  · by_cases h10 : n < 10
    · exact made_src5 n w (by omega) h10
    · by_cases h50 : n < 50
      · exact made_beast n w (by omega) h50
      · by_cases h80 : n < 80
        · exact made_magic n w (by omega) h80
        · by_cases h100 : n < 100
          · exact made_relic n w (by omega) h100
          · by_cases h112 : n < 112
            · exact made_single n w (by omega) h112
            · exact made_token n w (by omega) hn
end Go.Proofs.YtplfblccaeligaaDoor
namespace Go.Proofs.YtplfblccaeligaaDoor
open Go.RowKit Ex Mx Wx
set_option maxRecDepth 100000
theorem zeroD_cardG : zeroD = cardC zeroT none 0 0 := by unfold cardC; rw [arr6]; rfl
theorem zeroD_reads (Q : Nat → Prop) (W : World) : ReadsCQ Q W 2 zeroD zeroT := ⟨in_0, in_0, wide_no, in_0, in_0, in_0, none, 0, zeroD_cardG, Nat.le_refl _, by unfold maxLen; simp, no_ab⟩
theorem card_code2 (x : Int) (w : World) (_hx : In64 x) :
    Calls Tryd.prog 58 #[.int .i64 x] w (fun e w' => ∃ cs, e = .returned (.tuple #[.agg cs, errV (if isN x = true then 0 else 4)]) ∧ ReadsCQ (fun b => w.heap.size ≤ b ∧ b < w'.heap.size) w' 2 cs (tblX x) ∧ Below w.heap.size w w') := by
  by_cases h : 0 ≤ x ∧ x ≤ 119
  · rw [show tblX x = tblC x.toNat from if_pos h, show isN x = true from decide_eq_true h, if_pos rfl, errV_nil]
    obtain ⟨n, rfl⟩ : ∃ n : Nat, x = (n : Int) := ⟨x.toNat, by omega⟩
    rw [Int.toNat_natCast]
    have d0 : decide ((n : Int) < 0) = false := by simp
    have d1 : decide ((120 : Int) ≤ (n : Int)) = false := by simp; omega
    have hn : n < 120 := by omega
    clear h
    go_enter Tryd.func58, Tryd.ntmps58
    go_upto_region 1 with fail
    obtain ⟨w0, hw⟩ : ∃ W, W = w.alloc (.cells zeroD 55) := ⟨_, rfl⟩
    have hacc : EAcc w zeroD 55 w0 [] := by rw [hw]; exact ⟨(Below.refl _ _).alloc (Nat.le_refl _) _, heap_alloc_new _ _, by simp⟩
    rw [← hw]
    clear hw
    go_wp2_with fail
    refine (made_any n w0 hn).mono ?_
    rintro e w1 ⟨cs, rfl, hr, hb1⟩
    have hlt := hacc.lt
    replace hacc := hacc.step hb1
    have hsx := cq_info hr
    have hcs := cq_size hr
    have h1 := cq_one hr
    have HR := Lib.hid hr
    clear hr
    go_wp2_with (refine wpList_store_row rfl 55 (.tmp 2) (.tmp 13) rfl w.heap.size cs rfl rfl 55 zeroD hacc.z hsx (by rw [hcs]; rfl) h1 ?_)
    refine bodyPost_ret (v := .tuple #[.agg cs, .nilIface]) ?_ rfl ⟨cs, rfl, HR.out.keep (fun b hb => setRow_other _ _ _ _ (by omega)) (fun b hb => ⟨by omega, by rw [setRow_size]; exact hb.2⟩), below_setRow hacc.b _ _ (Nat.le_refl _)⟩
    exact results_cell_tmp (ty := 55) (p := 2) (q := 3) (by kernel_rfl) _ _ w.heap.size 55 _ (0, 0) _ rfl (setRow_heap _ _ _ _ _ _ hacc.z) Tryd.underlying55 rfl hsx
  · rw [show tblX x = zeroT from if_neg h, show isN x = false from decide_eq_false h, if_neg (by decide)]
    by_cases h0 : x < 0
    · have d0 : decide (x < 0) = true := decide_eq_true h0
      clear h h0
      go_enter Tryd.func58, Tryd.ntmps58
      go_upto_region 1 with fail
      obtain ⟨w0, hw⟩ : ∃ W, W = w.alloc (.cells zeroD 55) := ⟨_, rfl⟩
      have hacc : EAcc w zeroD 55 w0 [] := by rw [hw]; exact ⟨(Below.refl _ _).alloc (Nat.le_refl _) _, heap_alloc_new _ _, by simp⟩
      rw [← hw]
      clear hw
      have h1 : zeroD.all (·.oneCell') = true := cq_one (zeroD_reads (fun _ => True) w0)
      go_wp2_with (refine wpList_store_row rfl 55 (.tmp 2) (.tmp 10) rfl w.heap.size zeroD rfl rfl 55 zeroD hacc.z size13 rfl h1 ?_)
      refine bodyPost_ret (v := .tuple #[.agg zeroD, errV 4]) ?_ rfl ⟨zeroD, rfl, zeroD_reads _ _, below_setRow hacc.b _ _ (Nat.le_refl _)⟩
      exact results_cell_tmp (ty := 55) (p := 2) (q := 3) (by kernel_rfl) _ _ w.heap.size 55 _ (0, 0) _ rfl (setRow_heap _ _ _ _ _ _ hacc.z) Tryd.underlying55 rfl size13
    · have d0 : decide (x < 0) = false := decide_eq_false h0
      have d1 : decide ((120 : Int) ≤ x) = true := decide_eq_true (by omega)
      clear h h0
      go_enter Tryd.func58, Tryd.ntmps58
      go_upto_region 1 with fail
      obtain ⟨w0, hw⟩ : ∃ W, W = w.alloc (.cells zeroD 55) := ⟨_, rfl⟩
      have hacc : EAcc w zeroD 55 w0 [] := by rw [hw]; exact ⟨(Below.refl _ _).alloc (Nat.le_refl _) _, heap_alloc_new _ _, by simp⟩
      rw [← hw]
      clear hw
      have h1 : zeroD.all (·.oneCell') = true := cq_one (zeroD_reads (fun _ => True) w0)
      go_wp2_with (refine wpList_store_row rfl 55 (.tmp 2) (.tmp 10) rfl w.heap.size zeroD rfl rfl 55 zeroD hacc.z size13 rfl h1 ?_)
      refine bodyPost_ret (v := .tuple #[.agg zeroD, errV 4]) ?_ rfl ⟨zeroD, rfl, zeroD_reads _ _, below_setRow hacc.b _ _ (Nat.le_refl _)⟩
      exact results_cell_tmp (ty := 55) (p := 2) (q := 3) (by kernel_rfl) _ _ w.heap.size 55 _ (0, 0) _ rfl (setRow_heap _ _ _ _ _ _ hacc.z) Tryd.underlying55 rfl size13
theorem card_code (x : Int) (w : World) (hx : In64 x) :
    Calls Tryd.prog 58 #[.int .i64 x] w (fun e w' => ∃ d cs, e = .returned (.tuple #[.agg cs, errV (if isN x = true then 0 else 4)]) ∧ ReadsCQ (fun b => w.heap.size ≤ b ∧ b < w'.heap.size) w' d cs (tblX x) ∧ Below w.heap.size w w') :=
  (card_code2 x w hx).mono fun _ _ ⟨cs, h⟩ => ⟨2, cs, h⟩
end Go.Proofs.YtplfblccaeligaaDoor
