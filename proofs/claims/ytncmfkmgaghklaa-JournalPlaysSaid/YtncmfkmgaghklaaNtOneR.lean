/- Layer 13: the reference's one: the net of a span. -/
import Derived.Test.YtncmfkmgaghklaaNtOne
import Derived.Test.YtncmfkmgaghklaaNtEv2
import Derived.Test.YtncmfkmgaghklaaNtRef
import Derived.Test.YtncmfkmgaghklaaEvLe
namespace Go.Proofs.Ytncmfkmgaghklaa
open Go.RowKit Ex
set_option maxRecDepth 100000
set_option maxHeartbeats 0 in
theorem setsRef_any (e : EvT) (w : World) : Calls Try.prog 61 #[evV e] w fun en w' => en = .returned (.bool (isSet e)) ∧ Below w.heap.size w w' := by
  obtain ⟨r, hr⟩ : ∃ r, r = isSet e := ⟨_, rfl⟩
  rw [← hr]
  have hc : r = (decide (2 ≤ e.k) && decide (e.k ≤ 4)) := hr
  clear hr
  go_enter Try.func61, Try.ntmps61
  go_upto_region 1 with fail
  obtain ⟨w1, hw1⟩ : ∃ w1, w1 = w.alloc (.cells (evC e) 41) := ⟨_, rfl⟩
  have hrow : EvB w1 w.heap.size e := by rw [hw1]; exact heap_alloc_new _ _
  have hb1 : Below w.heap.size w w1 := by rw [hw1]; exact (Below.refl _ _).alloc (Nat.le_refl _) _
  show Code.wp _ _ _ _ (w.alloc (.cells (evC e) 41))
  rw [← hw1]
  have c0 := hrow.cells.1
  clear hw1 hrow
  by_cases k0 : 2 ≤ e.k
  · have d0 : decide (2 ≤ e.k) = true := decide_eq_true k0
    obtain ⟨q, hq⟩ : ∃ q, q = decide (e.k ≤ 4) := ⟨_, rfl⟩
    obtain rfl : r = q := by rw [hc, d0, hq]; rfl
    have d5 := hq.symm
    clear hc k0 hq
    go_wp2_with fail
    go_ret
    exact ⟨rfl, hb1⟩
  · have d0 : decide (2 ≤ e.k) = false := decide_eq_false k0
    obtain rfl : r = false := by rw [hc, d0]; rfl
    clear hc k0
    go_wp2_with fail
    go_ret
    exact ⟨rfl, hb1⟩
/-- The last event of a field so far. -/
def lastE (l : List EvT) (e : EvT) : EvT := l.foldl (fun c x => if (isSet x && sameK x e) = true then x else c) e
theorem lastE_snoc (l : List EvT) (x e : EvT) : lastE (l ++ [x]) e = if (isSet x && sameK x e) = true then x else lastE l e := by
  unfold lastE; rw [List.foldl_append]; rfl
theorem lastE_d (l : List EvT) (e : EvT) : (lastE l e).d = lastD l e := by
  induction l using snoc_ind with
  | h0 => rfl
  | h1 l x ih =>
    rw [lastE_snoc, lastD_snoc]
    by_cases h : isSet x = true ∧ sameK e x = true
    · rw [if_pos h, if_pos (by rw [h.1, sameK_symm, h.2]; rfl)]
    · rw [if_neg h, if_neg (fun h2 => h (by rw [Bool.and_eq_true] at h2; exact ⟨h2.1, by rw [sameK_symm]; exact h2.2⟩))]
      exact ih
theorem firstK_snoc (l : List EvT) (x e : EvT) : firstK (l ++ [x]) e = (firstK l e && !(isSet x && sameK x e)) := by
  unfold firstK
  simp [List.any_append]
theorem moves_snoc {l : List EvT} {k : Nat} {e : EvT} (h : l[k]? = some e) : moves (l.take (k + 1)) = if isSet e = true then moves (l.take k) else moves (l.take k) ++ [e] := by
  rw [take_snoc h]
  unfold moves
  rw [List.filter_append]
  by_cases hs : isSet e = true <;> simp [hs]
theorem finE_app (a b : List EvT) : finE (a ++ b) = finE a ++ finE b := List.filter_append ..
theorem firsts_next {l : List EvT} {k : Nat} {e : EvT} (h : l[k]? = some e) : finE (firsts l [] (l.take (k + 1))) = if isSet e = true ∧ firstK (l.take k) e = true ∧ e.c ≠ lastD l e then finE (firsts l [] (l.take k)) ++ [{ e with d := lastD l e }] else finE (firsts l [] (l.take k)) := by
  rw [take_snoc h, firsts_snoc, finE_app, List.nil_append]
  by_cases h1 : isSet e = true ∧ firstK (l.take k) e = true
  · rw [if_pos h1]
    by_cases h2 : e.c = lastD l e
    · rw [if_neg (fun h => h.2.2 h2)]
      simp [finE, h2]
    · rw [if_pos ⟨h1.1, h1.2, h2⟩]
      simp [finE, h2]
  · rw [if_neg h1, if_neg (fun h => h1 ⟨h.1, h.2.1⟩)]
    simp [finE]
theorem one_len (l : List EvT) (k : Nat) : (moves l).length + (finE (firsts l [] (l.take k))).length ≤ l.length + k := by
  have h1 : (moves l).length ≤ l.length := List.length_filter_le ..
  have h2 : ∀ (r pre : List EvT), (finE (firsts l pre r)).length ≤ r.length := by
    intro r
    induction r with
    | nil => intro pre; simp [firsts, finE]
    | cons e r ih =>
      intro pre
      simp only [firsts]
      rw [finE_app, List.length_append]
      have := ih (pre ++ [e])
      split
      · have h3 : (finE [{ e with d := lastD l e }]).length ≤ 1 := List.length_filter_le ..
        simp only [List.length_cons]; omega
      · simp [finE] at this ⊢; omega
  have := h2 (l.take k) []
  rw [List.length_take] at this
  omega
theorem firstK_min {l : List EvT} {m j : Nat} {x y : EvT} (hy : l[m]? = some y) : firstK (l.take (min (m + 1) j)) x = (firstK (l.take (min m j)) x && !(decide (m < j) && (isSet y && sameK y x))) := by
  by_cases h : m < j
  · rw [show min (m + 1) j = m + 1 by omega, show min m j = m by omega, take_snoc hy, firstK_snoc]
    simp [h]
  · rw [show min (m + 1) j = j by omega, show min m j = j by omega]
    simp [h]
/-- The inner loop's world: the box of the last event of that field. -/
structure LsB (w : World) (g : Nat) (e : EvT) (W : World) : Prop where
  b : Below w.heap.size w W
  e : EvB W g e
set_option linter.unusedSimpArgs false in
set_option maxHeartbeats 0 in
theorem oneRef_any (Al : Option Addr) (nl cl : Nat) (l : List EvT) (w : World) (hr : RdV w.heap.size w Al l) (hnl : nl = l.length) (hn : nl ≤ 2000) :
    Calls Try.prog 51 #[.slice Al nl cl] w fun en w' => ∃ A n c, en = .returned (.slice A n c) ∧ VB w A n c (oneL l) w' := by
  have HR := Lib.hid hr
  have HNl := Lib.hid hnl
  have hb0 : Below w.heap.size w (w.alloc (.cells #[] 41)) := (Below.refl _ _).alloc (Nat.le_refl _) _
  have h0 := ownV_empty w w.heap.size (Nat.le_refl _)
  clear hr hnl
  go_enter Try.func51, Try.ntmps51
  go_upto_region 3 with fail
  have HV0 := Lib.hid (show VB w (some ⟨w.heap.size, 0, none⟩) 0 0 (moves (l.take 0)) (w.alloc (.cells #[] 41)) from ⟨h0, hb0⟩)
  clear h0 hb0
  go_loopw [3, 16] (fun o i wr => ∃ (k n c : Nat) (A : Option Addr), i = .int .i64 ((k : Nat) : Int) ∧ o = .slice A n c ∧ k ≤ nl ∧ n ≤ k ∧ Hid (VB w A n c (moves (l.take k)) wr)) (fun _ i _ => nl - (intOf i).toNat)
  case atStart => exact ⟨0, 0, 0, _, rfl, rfl, by omega, by omega, HV0⟩
  case round =>
    clear HV0
    obtain ⟨k, n, c, A, rfl, rfl, hk, hnk, HV⟩ := hrel
    by_cases hlt : k < nl
    · have hlt' : k < l.length := by rw [← HNl.out]; exact hlt
      obtain ⟨b1, o1, ea, hb1, g1⟩ := HR.out.at_ hlt'
      subst ea
      have G1 := Lib.hid (range_below HV.out.b hb1 g1)
      obtain ⟨x, hx⟩ : ∃ x, x = l[k] := ⟨_, rfl⟩
      rw [← hx] at G1
      have HX := Lib.hid (moves_snoc (show l[k]? = some x by rw [hx]; exact List.getElem?_eq_getElem hlt'))
      have p0 : (0 : Int) ≤ (k : Int) := by omega
      have p1 : (k : Int) < (nl : Int) := by omega
      have p2 : (nl : Int) ≤ 2000 := by omega
      clear hx g1 hb1 hlt'
      have hsz := ev_size x
      have hone := evC_one x
      have hs6 : (evC ev0).size = (evC x).size := rfl
      have hz6 := ev0_is
      have hnew : (World.alloc wr (.cells (evC ev0) 41)).heap[(World.heap wr).size]? = some (.cells (evC ev0) 41 (0, 0)) := heap_alloc_new _ _
      obtain ⟨es, hes⟩ : ∃ es, es = evC x := ⟨_, rfl⟩
      have hev : evV x = .agg es := by rw [hes]; rfl
      have HEs := Lib.hid hes
      rw [← hes] at hsz hs6 hone
      clear hes
      go_upto_region 5 with (first
        | (refine load_evm rfl (.tmp 18) rfl b1 (o1 + k * 6) rfl x G1.out ?_; rw [hev])
        | (refine wpList_store_row rfl 41 (.tmp 5) (.tmp 19) rfl (World.heap wr).size _ rfl rfl 41 (evC ev0) hnew hsz hs6 hone ?_))
      rw [HEs.out]
      clear hnew hsz hs6 hone hz6 hev HEs es
      obtain ⟨w4, hw4, he4, hb4⟩ := ev_box wr x
      rw [← hw4]
      obtain ⟨ge, hge⟩ : ∃ g, g = (World.heap wr).size := ⟨_, rfl⟩
      rw [← hge] at he4
      rw [← hge]
      have HGge := Lib.hid hge
      clear hw4 hge
      have HV4 := Lib.hid (show VB w A n c (moves (l.take k)) w4 from ⟨HV.out.own.below hb4, keepB hb4 HV.out.b⟩)
      clear HV hb4
      go_wp2_with (refine load_ev (by rfl) (.tmp 5) rfl ge rfl x he4 ?_)
      refine (setsRef_any x w4).mono ?_
      rintro en w5 ⟨rfl, hb5⟩
      have HV5 := Lib.hid (show VB w A n c (moves (l.take k)) w5 from ⟨HV4.out.own.below hb5, keepB hb5 HV4.out.b⟩)
      have he5 := he4.keep hb5
      clear HV4 he4 hb5
      obtain ⟨q, hq⟩ : ∃ q, q = isSet x := ⟨_, rfl⟩
      rw [← hq]
      cases q with
      | true =>
        have HV6 := Lib.hid (show VB w A n c (moves (l.take (k + 1))) w5 from by rw [HX.out, if_pos hq.symm]; exact HV5.out)
        clear hq HV5 he5
        go_wp2_with fail
        go_roundw
        case rel => exact ⟨k + 1, _, _, _, by go_num, rfl, by omega, by omega, HV6⟩
        case measure => simp [intOf]; omega
      | false =>
        have HM := Lib.hid (show moves (l.take (k + 1)) = moves (l.take k) ++ [x] from by rw [HX.out, if_neg (by rw [← hq]; simp)])
        have hn1 : n + 1 ≤ 1000000 := by omega
        clear hq
        have hb6 : Below (World.heap w5).size w5 (World.alloc w5 (.cells (evC x) 41)) := (Below.refl _ _).alloc (Nat.le_refl _) _
        have hE6 : EvB (World.alloc w5 (.cells (evC x) 41)) (World.heap w5).size x := heap_alloc_new _ _
        have hO6 := HV5.out.own.below hb6
        have hB6 := keepB hb6 HV5.out.b
        have hR6 := rdV_one hE6
        have hsz6 := hB6.size
        clear hb6 hE6
        go_wp2_with (first
          | (refine load_ev (by rfl) (.tmp 5) rfl ge rfl x he5 ?_)
          | (refine wpList_buildSliceEv rfl (.tmp 24) rfl x rfl ?_)
          | (at_builtin; refine wpList_appV rfl (.tmp 23) (.tmp 25) rfl w.heap.size A n c _ rfl hO6 _ _ 1 1 [x] rfl hR6 rfl hn1 hsz6 ?_; intro A7 c7 w7 ho7 hg7))
        have HV7 := Lib.hid (show VB w A7 (n + 1) c7 (moves (l.take (k + 1))) w7 from by rw [HM.out]; exact ⟨ho7, hO6.grown hB6 hsz6 hg7⟩)
        clear ho7 hg7 hO6 hR6 hB6 hsz6 he5 HV5
        go_roundw
        case rel => exact ⟨k + 1, _, _, _, by go_num, rfl, by omega, by omega, HV7⟩
        case measure => simp [intOf]; omega
    · obtain rfl : k = nl := by omega
      have HV1 := Lib.hid (show VB w A n c (moves l ++ finE (firsts l [] (l.take 0))) wr from by
        have h := HV.out
        rw [HNl.out, List.take_length] at h
        show VB w A n c (moves l ++ []) wr
        rw [List.append_nil]; exact h)
      clear HV
      go_upto_region 9 with fail
      have p2 : (k : Int) ≤ 2000 := by omega
      go_loopw [3, 30] (fun o i wx => ∃ (j n2 c2 : Nat) (A2 : Option Addr), i = .int .i64 ((j : Nat) : Int) ∧ o = .slice A2 n2 c2 ∧ j ≤ k ∧ Hid (VB w A2 n2 c2 (moves l ++ finE (firsts l [] (l.take j))) wx)) (fun _ i _ => k - (intOf i).toNat)
      case atStart => exact ⟨0, n, c, A, rfl, rfl, by omega, HV1⟩
      case round =>
        clear HV1
        obtain ⟨j, n2, c2, A2, rfl, rfl, hj, HV⟩ := hrel
        by_cases hlt2 : j < k
        · have hlt' : j < l.length := by rw [← HNl.out]; exact hlt2
          obtain ⟨b1, o1, ea, hb1, g1⟩ := HR.out.at_ hlt'
          subst ea
          have G1 := Lib.hid (range_below HV.out.b hb1 g1)
          obtain ⟨x, hx⟩ : ∃ x, x = l[j] := ⟨_, rfl⟩
          rw [← hx] at G1
          have HX := Lib.hid (firsts_next (show l[j]? = some x by rw [hx]; exact List.getElem?_eq_getElem hlt'))
          have HN2 := Lib.hid (show n2 + 1 ≤ 1000000 from by
            have h1 := HV.out.own.len
            have h2 := one_len l j
            rw [List.length_append] at h1
            have h3 := HNl.out
            omega)
          have p0 : (0 : Int) ≤ (j : Int) := by omega
          have p1 : (j : Int) < (k : Int) := by omega
          clear hx g1 hb1 hlt'
          have hsz := ev_size x
          have hone := evC_one x
          have hs6 : (evC ev0).size = (evC x).size := rfl
          have hz6 := ev0_is
          have hnew : (World.alloc wr (.cells (evC ev0) 41)).heap[(World.heap wr).size]? = some (.cells (evC ev0) 41 (0, 0)) := heap_alloc_new _ _
          obtain ⟨es, hes⟩ : ∃ es, es = evC x := ⟨_, rfl⟩
          have hev : evV x = .agg es := by rw [hes]; rfl
          have HEs := Lib.hid hes
          rw [← hes] at hsz hs6 hone
          clear hes
          go_upto_region 11 with (first
            | (refine load_evm rfl (.tmp 33) rfl b1 (o1 + j * 6) rfl x G1.out ?_; rw [hev])
            | (refine wpList_store_row rfl 41 (.tmp 7) (.tmp 34) rfl (World.heap wr).size _ rfl rfl 41 (evC ev0) hnew hsz hs6 hone ?_))
          rw [HEs.out]
          clear hnew hsz hs6 hone hz6 hev HEs es
          obtain ⟨w4, hw4, he4, hb4⟩ := ev_box wr x
          rw [← hw4]
          obtain ⟨ge, hge⟩ : ∃ g, g = (World.heap wr).size := ⟨_, rfl⟩
          rw [← hge] at he4
          rw [← hge]
          have HGge := Lib.hid hge
          clear hw4 hge
          have HV4 := Lib.hid (show VB w A2 n2 c2 (moves l ++ finE (firsts l [] (l.take j))) w4 from ⟨HV.out.own.below hb4, keepB hb4 HV.out.b⟩)
          clear HV hb4
          go_wp2_with (refine load_ev (by rfl) (.tmp 7) rfl ge rfl x he4 ?_)
          refine (setsRef_any x w4).mono ?_
          rintro en w5 ⟨rfl, hb5⟩
          have HV5 := Lib.hid (show VB w A2 n2 c2 (moves l ++ finE (firsts l [] (l.take j))) w5 from ⟨HV4.out.own.below hb5, keepB hb5 HV4.out.b⟩)
          have he5 := he4.keep hb5
          clear HV4 he4 hb5
          obtain ⟨q, hq⟩ : ∃ q, q = isSet x := ⟨_, rfl⟩
          rw [← hq]
          cases q with
          | false =>
            have HV6 := Lib.hid (show VB w A2 n2 c2 (moves l ++ finE (firsts l [] (l.take (j + 1)))) w5 from by rw [HX.out, if_neg (fun h => by rw [h.1] at hq; cases hq)]; exact HV5.out)
            clear hq HV5 he5
            go_wp2_with fail
            go_roundw
            case rel => exact ⟨j + 1, _, _, _, by go_num, rfl, by omega, HV6⟩
            case measure => simp [intOf]; omega
          | true =>
            have HQ := Lib.hid hq
            clear hq
            go_upto_region 12 with fail
            have hz6 := ev0_is
            have hge5 := he5.lt
            have hbA0 : Below w5.heap.size w5 (w5.alloc (.cells (evC ev0) 41)).drew := ((Below.refl _ _).alloc (Nat.le_refl _) _).drew
            have hE0 : EvB (w5.alloc (.cells (evC ev0) 41)).drew w5.heap.size ev0 := heap_alloc_new w5 (.cells (evC ev0) 41)
            have he5b : EvB (w5.alloc (.cells (evC ev0) 41)).drew ge x := he5.keep hbA0
            have he5c : EvB ((w5.alloc (.cells (evC ev0) 41)).drew.setRow w5.heap.size (evC x)) ge x := (setRow_other _ _ ge _ (by omega)).trans he5b
            obtain ⟨w9, hw9⟩ : ∃ w9, w9 = (w5.alloc (.cells (evC ev0) 41)).drew.setRow w5.heap.size (evC x) := ⟨_, rfl⟩
            have he9 : EvB w9 w5.heap.size x := by rw [hw9]; exact setRow_heap _ _ _ _ _ _ hE0
            have hb59 : Below w5.heap.size w5 w9 := by rw [hw9]; exact below_setRow hbA0 _ _ (Nat.le_refl _)
            refine wp_region_held_drew (S := fun W => EvB W ge x) (by kernel_rfl) (show EvB w5.drew ge x from he5) (fun hHeld => ?_)
            refine wpAnyH_take (i := 0) (v := .agg (evC x)) rfl (by kernel_rfl) (by kernel_rfl) (by kernel_rfl) (fun _ _ _ h => h) (yields_ev2 (by rfl) (.tmp 7) rfl ge rfl (evC x) (fun W h => h) (ev_size x)) hHeld ?_
            simp only [Act.put, List.getElem_toArray, List.getElem_cons_zero, List.getElem_cons_succ, List.setIfInBounds_toArray, List.set_cons_zero, List.set_cons_succ]
            refine wpAnyH_ready (rs := [1]) (by kernel_rfl) (by simp) ?_
            refine AllReadyH.cons rfl (fun K hK => ?_) AllReadyH.nil
            simp only [List.getElem_toArray, List.getElem_cons_zero, List.getElem_cons_succ]
            go_simp
            refine hK.out _ _ he5b (fun _ => ?_)
            clear hK K
            have hHeld := he5b
            try simp only [Act.put, List.setIfInBounds_toArray, List.set_cons_zero, List.set_cons_succ]
            refine wpAnyH_take (i := 2) (v := ?_) rfl (by kernel_rfl) (by kernel_rfl) (by kernel_rfl) (fun _ _ _ h => h) (Or.inl ⟨by rfl, ?_⟩) hHeld ?_
            rotate_left
            · (intro w hSw; go_simp; (try with_reducible rfl))
            simp only [Act.put, List.getElem_toArray, List.getElem_cons_zero, List.getElem_cons_succ, List.setIfInBounds_toArray, List.set_cons_zero, List.set_cons_succ]
            refine wpAnyH_ready (rs := [3]) (by kernel_rfl) (by simp) ?_
            refine AllReadyH.cons rfl (fun K hK => ?_) AllReadyH.nil
            simp only [List.getElem_toArray, List.getElem_cons_zero, List.getElem_cons_succ]
            refine wp_store_row 41 (.tmp 9) (.tmp 38) rfl w5.heap.size _ rfl rfl 41 _ hE0 (ev_size x) rfl (evC_one x) ?_
            refine hK.out _ _ he5c (fun _ => ?_)
            clear hK K
            try simp only [Act.put, List.setIfInBounds_toArray, List.set_cons_zero, List.set_cons_succ]
            refine wpAnyH_done (by kernel_rfl) ?_ _
            rw [← hw9]
            obtain ⟨g9, hg9⟩ : ∃ g, g = w5.heap.size := ⟨_, rfl⟩
            rw [← hg9] at he9
            rw [← hg9]
            have hg9s : w5.heap.size ≤ g9 := by rw [hg9]; exact Nat.le_refl _
            have HL0 := Lib.hid (show LsB w5 g9 (lastE (l.take 0) x) w9 from ⟨hb59, he9⟩)
            have hF0 : firstK (l.take (min 0 j)) x = true := by simp [firstK]
            clear hHeld hE0 he5b he5c hbA0 hw9 hg9 hb59 he9 hz6
            go_upto_region 14 with fail
            go_loopw [8, 41] (fun f i wz => ∃ m : Nat, i = .int .i64 ((m : Nat) : Int) ∧ f = .bool (firstK (l.take (min m j)) x) ∧ m ≤ k ∧ Hid (LsB w5 g9 (lastE (l.take m) x) wz)) (fun _ i _ => k - (intOf i).toNat)
            case atStart => exact ⟨0, rfl, by rw [hF0], by omega, HL0⟩
            case round =>
              clear HL0 hF0
              obtain ⟨m, rfl, rfl, hm, HL⟩ := hrel
              by_cases hlt3 : m < k
              · have hlt' : m < l.length := by rw [← HNl.out]; exact hlt3
                obtain ⟨b2, o2, ea, hb2, g2⟩ := HR.out.at_ hlt'
                injection ea with ea
                injection ea with e1 e2
                subst e1 e2
                have G2 := Lib.hid (range_below (keepB HL.out.b HV5.out.b) hb2 g2)
                obtain ⟨y, hy⟩ : ∃ y, y = l[m] := ⟨_, rfl⟩
                rw [← hy] at G2
                have HY := Lib.hid (show l[m]? = some y by rw [hy]; exact List.getElem?_eq_getElem hlt')
                have m0 : (0 : Int) ≤ (m : Int) := by omega
                have m1 : (m : Int) < (k : Int) := by omega
                clear hy g2 hb2 hlt'
                have hsz := ev_size y
                have hone := evC_one y
                have hs6 : (evC ev0).size = (evC y).size := rfl
                have hz6 := ev0_is
                have hnew : (World.alloc wr (.cells (evC ev0) 41)).heap[(World.heap wr).size]? = some (.cells (evC ev0) 41 (0, 0)) := heap_alloc_new _ _
                obtain ⟨es, hes⟩ : ∃ es, es = evC y := ⟨_, rfl⟩
                have hev : evV y = .agg es := by rw [hes]; rfl
                have HEs := Lib.hid hes
                rw [← hes] at hsz hs6 hone
                clear hes
                go_upto_region 16 with (first
                  | (refine load_evm rfl (.tmp 44) rfl b1 (o1 + m * 6) rfl y G2.out ?_; rw [hev])
                  | (refine wpList_store_row rfl 41 (.tmp 11) (.tmp 45) rfl (World.heap wr).size _ rfl rfl 41 (evC ev0) hnew hsz hs6 hone ?_))
                rw [HEs.out]
                clear hnew hsz hs6 hone hz6 hev HEs es
                obtain ⟨wA, hw4, heA, hbA⟩ := ev_box wr y
                rw [← hw4]
                obtain ⟨gA, hge⟩ : ∃ g, g = (World.heap wr).size := ⟨_, rfl⟩
                rw [← hge] at heA
                rw [← hge]
                have HGgA := Lib.hid hge
                clear hw4 hge
                have HLA := Lib.hid (show LsB w5 g9 (lastE (l.take m) x) wA from ⟨keepB hbA HL.out.b, HL.out.e.keep hbA⟩)
                clear HL hbA
                go_wp2_with (refine load_ev (by rfl) (.tmp 11) rfl gA rfl y heA ?_)
                refine (setsRef_any y wA).mono ?_
                rintro en wB ⟨rfl, hbB⟩
                have HLB := Lib.hid (show LsB w5 g9 (lastE (l.take m) x) wB from ⟨keepB hbB HLA.out.b, HLA.out.e.keep hbB⟩)
                have heB := heA.keep hbB
                clear HLA heA hbB
                have heX := he5.keep HLB.out.b
                have y0 := heB.cells.1
                have y1 := heB.cells.2.1
                have y2 := heB.cells.2.2.1
                have x0 := heX.cells.1
                have x1 := heX.cells.2.1
                have x2 := heX.cells.2.2.1
                have HFm := Lib.hid (firstK_min (j := j) (x := x) HY.out)
                have HLm := Lib.hid (show lastE (l.take (m + 1)) x = if (isSet y && sameK y x) = true then y else lastE (l.take m) x from by rw [take_snoc HY.out, lastE_snoc])
                have hsk : sameK y x = ((y.k == x.k) && (y.a == x.a) && (y.b == x.b)) := rfl
                obtain ⟨F, hF⟩ : ∃ F, F = firstK (l.take (min m j)) x := ⟨_, rfl⟩
                rw [← hF] at HFm
                rw [← hF]
                obtain ⟨q, hq⟩ : ∃ q, q = isSet y := ⟨_, rfl⟩
                obtain ⟨qk, hqk⟩ : ∃ q, q = (y.k == x.k) := ⟨_, rfl⟩
                obtain ⟨qa, hqa⟩ : ∃ q, q = (y.a == x.a) := ⟨_, rfl⟩
                obtain ⟨qb, hqb⟩ : ∃ q, q = (y.b == x.b) := ⟨_, rfl⟩
                rw [← hqk, ← hqa, ← hqb] at hsk
                rw [← hq, hsk] at HFm HLm
                rw [← hq]
                have dk := hqk.symm
                have da := hqa.symm
                have db := hqb.symm
                clear hF hq hqk hqa hqb hsk heX
                by_cases hall : (q && (qk && qa && qb)) = true
                · obtain ⟨rfl, hall⟩ : q = true ∧ (qk && qa && qb) = true := by simpa using hall
                  obtain ⟨⟨rfl, rfl⟩, rfl⟩ : (qk = true ∧ qa = true) ∧ qb = true := by simpa using hall
                  clear hall
                  have hrow9 : wB.heap[g9]? = some (.cells (evC (lastE (l.take m) x)) 41 (0, 0)) := HLB.out.e
                  have HLC := Lib.hid (show LsB w5 g9 (lastE (l.take (m + 1)) x) (wB.setRow g9 (evC y)) from by
                    rw [HLm.out, if_pos (show (true && (true && true && true)) = true from rfl)]
                    exact ⟨below_setRow HLB.out.b _ _ hg9s, setRow_heap _ _ _ _ _ _ hrow9⟩)
                  have hszY := ev_size y
                  have honeY := evC_one y
                  obtain ⟨ey, hey⟩ : ∃ ey, ey = evC y := ⟨_, rfl⟩
                  obtain ⟨el, hel⟩ : ∃ el, el = evC (lastE (l.take m) x) := ⟨_, rfl⟩
                  have hse : el.size = ey.size := by rw [hel, hey]; rfl
                  have hevY : evV y = .agg ey := by rw [hey]; rfl
                  rw [← hel] at hrow9
                  rw [← hey] at hszY honeY HLC
                  clear hel hey
                  cases F with
                  | false =>
                    have HFn := Lib.hid (show firstK (l.take (min (m + 1) j)) x = false from by rw [HFm.out]; rfl)
                    go_wp2_with (first
                      | (refine load_ev (by rfl) (.tmp 11) rfl gA rfl y heB ?_; rw [hevY])
                      | (refine wpList_store_row rfl 41 (.tmp 9) (.tmp 75) rfl g9 _ rfl rfl 41 el hrow9 hszY hse honeY ?_))
                    go_roundw
                    case rel => exact ⟨m + 1, by go_num, by rw [HFn.out], by omega, HLC⟩
                    case measure => simp [intOf]; omega
                  | true =>
                    have HFn := Lib.hid (show firstK (l.take (min (m + 1) j)) x = decide (j ≤ m) from by
                      rw [HFm.out, Bool.eq_iff_iff]; simp)
                    go_wp2_with (first
                      | (refine load_ev (by rfl) (.tmp 11) rfl gA rfl y heB ?_; rw [hevY])
                      | (refine wpList_store_row rfl 41 (.tmp 9) (.tmp 75) rfl g9 _ rfl rfl 41 el hrow9 hszY hse honeY ?_))
                    go_roundw
                    case rel => exact ⟨m + 1, by go_num, by rw [HFn.out], by omega, HLC⟩
                    case measure => simp [intOf]; omega
                · have hall : (q && (qk && qa && qb)) = false := by simpa using hall
                  have HFn := Lib.hid (show firstK (l.take (min (m + 1) j)) x = F from by rw [HFm.out, hall]; simp)
                  have HLC := Lib.hid (show LsB w5 g9 (lastE (l.take (m + 1)) x) wB from by rw [HLm.out, hall, if_neg (by simp)]; exact HLB.out)
                  cases q with
                  | false =>
                    go_wp2_with fail
                    go_roundw
                    case rel => exact ⟨m + 1, by go_num, by rw [HFn.out], by omega, HLC⟩
                    case measure => simp [intOf]; omega
                  | true =>
                    cases qk with
                    | false =>
                      go_wp2_with fail
                      go_roundw
                      case rel => exact ⟨m + 1, by go_num, by rw [HFn.out], by omega, HLC⟩
                      case measure => simp [intOf]; omega
                    | true =>
                      cases qa with
                      | false =>
                        go_wp2_with fail
                        go_roundw
                        case rel => exact ⟨m + 1, by go_num, by rw [HFn.out], by omega, HLC⟩
                        case measure => simp [intOf]; omega
                      | true =>
                        cases qb with
                        | false =>
                          go_wp2_with fail
                          go_roundw
                          case rel => exact ⟨m + 1, by go_num, by rw [HFn.out], by omega, HLC⟩
                          case measure => simp [intOf]; omega
                        | true => cases hall
              · obtain rfl : m = k := by omega
                have hmin : min m j = j := by omega
                have hfull : l.take m = l := by rw [HNl.out, List.take_length]
                rw [hmin]
                rw [hfull] at HL
                have HDd := Lib.hid (lastE_d l x)
                obtain ⟨D, hD⟩ : ∃ D, D = lastD l x := ⟨_, rfl⟩
                rw [← hD] at HX HDd
                have heX := he5.keep HL.out.b
                have xc := heX.cells.2.2.2.1
                have xd : wr.cell? ⟨g9, 4, none⟩ = some (.int .i64 D) := by rw [HL.out.e.cells.2.2.2.2.1, HDd.out]
                have HV6 := Lib.hid (show VB w A2 n2 c2 (moves l ++ finE (firsts l [] (l.take j))) wr from ⟨HV5.out.own.below HL.out.b, keepB HL.out.b HV5.out.b⟩)
                obtain ⟨F, hF⟩ : ∃ F, F = firstK (l.take j) x := ⟨_, rfl⟩
                rw [← hF] at HX
                rw [← hF]
                have HLe := Lib.hid HL.out.e
                clear hmin hfull hD hF HL HV5 he5
                cases F with
                | false =>
                  have HV7 := Lib.hid (show VB w A2 n2 c2 (moves l ++ finE (firsts l [] (l.take (j + 1)))) wr from by rw [HX.out, if_neg (fun h => by cases h.2.1)]; exact HV6.out)
                  clear heX
                  go_wp2_with fail
                  go_roundw
                  case rel => exact ⟨j + 1, _, _, _, by go_num, rfl, by omega, HV7⟩
                  case measure => simp [intOf]; omega
                | true =>
                  by_cases hcd : x.c = D
                  · have HV7 := Lib.hid (show VB w A2 n2 c2 (moves l ++ finE (firsts l [] (l.take (j + 1)))) wr from by rw [HX.out, if_neg (fun h => h.2.2 hcd)]; exact HV6.out)
                    have d0 : (x.c != D) = false := by simp [hcd]
                    clear heX hcd
                    go_wp2_with fail
                    go_roundw
                    case rel => exact ⟨j + 1, _, _, _, by go_num, rfl, by omega, HV7⟩
                    case measure => simp [intOf]; omega
                  · have HE := Lib.hid (HX.out.trans (if_pos ⟨HQ.out.symm, rfl, hcd⟩))
                    have d0 : (x.c != D) = true := by simp [hcd]
                    clear hcd
                    have hsz := ev_size x
                    have hone := evC_one x
                    have hs6 : (evC ev0).size = (evC x).size := rfl
                    have hz6 := ev0_is
                    have hnew : (wr.alloc (.cells (evC ev0) 41)).heap[wr.heap.size]? = some (.cells (evC ev0) 41 (0, 0)) := heap_alloc_new _ _
                    obtain ⟨es, hes⟩ : ∃ es, es = evC x := ⟨_, rfl⟩
                    have hev : evV x = .agg es := by rw [hes]; rfl
                    have HEs := Lib.hid hes
                    rw [← hes] at hsz hs6 hone
                    clear hes
                    go_upto_region 22 with (first
                      | (refine load_ev (by rfl) (.tmp 7) rfl ge rfl x heX ?_; rw [hev])
                      | (refine wpList_store_row rfl 41 (.tmp 12) (.tmp 85) rfl wr.heap.size _ rfl rfl 41 (evC ev0) hnew hsz hs6 hone ?_))
                    rw [HEs.out]
                    clear hnew hsz hs6 hone hz6 hev HEs es
                    obtain ⟨wC, hwC, heC, hbC⟩ := ev_box wr x
                    rw [← hwC]
                    obtain ⟨gC, hgC⟩ : ∃ g, g = wr.heap.size := ⟨_, rfl⟩
                    rw [← hgC] at heC
                    rw [← hgC]
                    have HVC := Lib.hid (show VB w A2 n2 c2 (moves l ++ finE (firsts l [] (l.take j))) wC from ⟨HV6.out.own.below hbC, keepB hbC HV6.out.b⟩)
                    have hlC : wr.heap.size ≤ gC := by omega
                    have xd2 : wC.cell? ⟨g9, 4, none⟩ = some (.int .i64 D) := by rw [(HLe.out.keep hbC).cells.2.2.2.2.1, HDd.out]
                    have cC := heC.cells.2.2.2.2.1
                    have fC := frozen_of_row wC gC 4 _ _ heC
                    have heD : EvB (wC.setCell ⟨gC, 4, none⟩ (.int .i64 D)) gC { x with d := D } := heC.set_ 4 _ rfl
                    have HVD := Lib.hid (show VB w A2 n2 c2 (moves l ++ finE (firsts l [] (l.take j))) (wC.setCell ⟨gC, 4, none⟩ (.int .i64 D)) from by
                      have hb : Below wr.heap.size wr (wC.setCell ⟨gC, 4, none⟩ (.int .i64 D)) := hbC.setCell (by simpa using hlC) _
                      exact ⟨HV6.out.own.below hb, keepB hb HV6.out.b⟩)
                    clear hwC hgC hbC heC xd xc heX HLe HVC HV6
                    go_upto_region 23 with fail
                    obtain ⟨wD, hwD⟩ : ∃ wD, wD = wC.setCell ⟨gC, 4, none⟩ (.int .i64 D) := ⟨_, rfl⟩
                    rw [← hwD] at heD HVD
                    rw [← hwD]
                    clear hwD xd2 cC fC d0
                    obtain ⟨z, hz⟩ : ∃ z, z = { x with d := D } := ⟨_, rfl⟩
                    rw [← hz] at heD HE
                    clear hz
                    have hn1 := HN2.out
                    have hb6 : Below (World.heap wD).size wD (World.alloc wD (.cells (evC z) 41)) := (Below.refl _ _).alloc (Nat.le_refl _) _
                    have hE6 : EvB (World.alloc wD (.cells (evC z) 41)) (World.heap wD).size z := heap_alloc_new _ _
                    have hO6 := HVD.out.own.below hb6
                    have hB6 := keepB hb6 HVD.out.b
                    have hR6 := rdV_one hE6
                    have hsz6 := hB6.size
                    clear hb6 hE6
                    go_wp2_with (first
                      | (refine load_ev (by rfl) (.tmp 12) rfl gC rfl z heD ?_)
                      | (refine wpList_buildSliceEv rfl (.tmp 90) rfl z rfl ?_)
                      | (at_builtin; refine wpList_appV rfl (.tmp 89) (.tmp 91) rfl w.heap.size A2 n2 c2 _ rfl hO6 _ _ 1 1 [z] rfl hR6 rfl hn1 hsz6 ?_; intro A7 c7 w7 ho7 hg7))
                    have HV7 := Lib.hid (show VB w A7 (n2 + 1) c7 (moves l ++ finE (firsts l [] (l.take (j + 1)))) w7 from by
                      rw [HE.out, ← List.append_assoc]; exact ⟨ho7, hO6.grown hB6 hsz6 hg7⟩)
                    clear ho7 hg7 hO6 hR6 hB6 hsz6 heD HVD
                    go_roundw
                    case rel => exact ⟨j + 1, _, _, _, by go_num, rfl, by omega, HV7⟩
                    case measure => simp [intOf]; omega
        · obtain rfl : j = k := by omega
          have HF := Lib.hid (show VB w A2 n2 c2 (oneL l) wr from by
            have h := HV.out
            rw [HNl.out, List.take_length] at h
            exact h)
          clear HV
          go_wp2_with fail
          go_ret
          exact ⟨_, _, _, rfl, HF.out⟩
end Go.Proofs.Ytncmfkmgaghklaa
