/- Layer 13: the reference's Net. -/
import Derived.Test.YtncmfkmgaghklaaNtOneR
namespace Go.Proofs.Ytncmfkmgaghklaa
open Go.RowKit Ex
set_option maxRecDepth 100000
theorem one_len' (l : List EvT) : (oneL l).length ≤ 2 * l.length := by
  have := one_len l l.length
  rw [List.take_length] at this
  unfold oneL
  rw [List.length_append]; omega
theorem ntK_len {l : List EvT} {k fr : Nat} {o : List EvT} (h : NtK l k fr o) (hk : k ≤ l.length) : o.length ≤ l.length ∧ fr ≤ l.length := by
  have h1 := (ntI (l.take fr)).n
  rw [h.o] at h1
  have := h.le
  simp only [List.length_take, List.length_nil] at h1
  omega
theorem seg_eq {l : List EvT} {k fr : Nat} : (l.take k).drop fr = (l.drop fr).take (k - fr) := by rw [List.drop_take]
/-- What stands while it is netted: what came out, boxes that are none of its own. -/
structure NG (w : World) (ge : Nat) (x : EvT) (A : Option Addr) (n c : Nat) (o : List EvT) (W : World) : Prop where
  v : VB w A n c o W
  e : EvB W ge x
  ne : ∀ j, (Value.slice A n c).ownBlock = some j → j ≠ ge
theorem VB.keep {w W W' : World} {A : Option Addr} {n c : Nat} {o : List EvT} (h : VB w A n c o W) (hb : Below W.heap.size W W') : VB w A n c o W' := ⟨h.own.below hb, keepB hb h.b⟩
theorem VB.app {w W W' : World} {A A' : Option Addr} {n c n' c' : Nat} {o o' : List EvT} (h : VB w A n c o W) (ho : OwnV W' w.heap.size A' n' c' o') (hg : W.grownBy W' (Value.slice A n c).ownBlock) : VB w A' n' c' o' W' := ⟨ho, h.own.grown h.b h.b.size hg⟩
theorem NG.keep {w W W' : World} {ge : Nat} {x : EvT} {A : Option Addr} {n c : Nat} {o : List EvT} (h : NG w ge x A n c o W) (hb : Below W.heap.size W W') : NG w ge x A n c o W' := ⟨h.v.keep hb, h.e.keep hb, h.ne⟩
theorem NG.app {w W W' : World} {ge : Nat} {x : EvT} {A A' : Option Addr} {n c n' c' : Nat} {o o' : List EvT} (h : NG w ge x A n c o W) (ho : OwnV W' w.heap.size A' n' c' o') (hg : W.grownBy W' (Value.slice A n c).ownBlock)
    (hat : (Value.slice A' n' c').ownBlock = (Value.slice A n c).ownBlock ∨ (Value.slice A' n' c').ownBlock = some W.heap.size) : NG w ge x A' n' c' o' W' := by
  refine ⟨h.v.app ho hg, (hg.block ge h.e.lt (fun e => h.ne ge e.symm rfl)).trans h.e, fun j hj => ?_⟩
  rcases hat with e | e
  · rw [e] at hj; exact h.ne j hj
  · rw [e] at hj
    injection hj with hj
    have := h.e.lt
    omega
/-- A box built behind what came out. -/
theorem NG.built {w W : World} {ge : Nat} {x : EvT} {A : Option Addr} {n c : Nat} {o : List EvT} (h : NG w ge x A n c o W) : NG w W.heap.size x A n c o (W.alloc (.cells (evC x) 41)) :=
  ⟨h.v.keep ((Below.refl _ _).alloc (Nat.le_refl _) _), heap_alloc_new _ _, fun j hj => by have := (h.v.own.o.lt j hj).2; omega⟩
theorem wp_buildSliceEv {o : Oper} {a : Act} {w : World} {K : Act → World → Prop} {Q : Exit → Act → World → Prop} (x : Operand) (ho : o.op = .buildSlice 31 1 #[(0, x)]) (e : EvT)
    (hx : a.eval x = evV e) (hK : K (a.put o.dst (.slice (some ⟨w.heap.size, 0, none⟩) 1 1)) (w.alloc (.cells (evC e) 41))) : o.wp Try.prog a w K Q := by
  unfold Oper.wp
  simp [execOp, ho, hx, buildSlice_ev, Result.andThen]
  exact hK
set_option linter.unusedSimpArgs false in
set_option maxHeartbeats 0 in
theorem netRef_any (Al : Option Addr) (nl cl : Nat) (l : List EvT) (w : World) (h : Evs w.heap.size w Al nl l) (hcl : nl ≤ cl) (hn : nl ≤ 1000) :
    Calls Try.prog 38 #[.slice Al nl cl] w fun en w' => ∃ A n c, en = .returned (.slice A n c) ∧ VB w A n c (netL l) w' := by
  have H := Lib.hid h
  have HCl := Lib.hid hcl
  have hb0 : Below w.heap.size w (w.alloc (.cells #[] 41)) := (Below.refl _ _).alloc (Nat.le_refl _) _
  have h0 := ownV_empty w w.heap.size (Nat.le_refl _)
  clear h hcl
  go_enter Try.func38, Try.ntmps38
  go_upto_region 3 with fail
  have HV0 := Lib.hid (show VB w (some ⟨w.heap.size, 0, none⟩) 0 0 [] (w.alloc (.cells #[] 41)) from ⟨h0, hb0⟩)
  have HK0 := Lib.hid (NtK.start l)
  clear h0 hb0
  go_loopw [3, 4, 10] (fun o f i wr => ∃ (k fr n c : Nat) (A : Option Addr) (out : List EvT), i = .int .i64 ((k : Nat) : Int) ∧ f = .int .i64 ((fr : Nat) : Int) ∧ o = .slice A n c ∧ k ≤ nl ∧ Hid (NtK l k fr out) ∧ Hid (VB w A n c out wr)) (fun _ _ i _ => nl - (intOf i).toNat)
  case atStart => exact ⟨0, 0, 0, 0, _, [], rfl, rfl, rfl, by omega, HK0, HV0⟩
  case round =>
    clear HV0 HK0
    obtain ⟨k, fr, n, c, A, out, rfl, rfl, rfl, hk, HK, HV⟩ := hrel
    have HLn := Lib.hid (show n ≤ nl ∧ fr ≤ k ∧ fr ≤ nl from by
      have h1 := ntK_len HK.out (by rw [← H.out.n]; exact hk)
      have h2 := HV.out.own.len
      have h3 := H.out.n
      have h4 := HK.out.le
      omega)
    by_cases hlt : k < nl
    · have hlt' : k < l.length := by rw [← H.out.n]; exact hlt
      obtain ⟨b1, o1, ea, hb1, g1⟩ := H.out.r.at_ hlt'
      have G1 := Lib.hid (range_below HV.out.b hb1 g1)
      have HA := Lib.hid ea
      obtain ⟨x, hx⟩ : ∃ x, x = l[k] := ⟨_, rfl⟩
      rw [← hx] at G1
      have HX := Lib.hid (show l[k]? = some x by rw [hx]; exact List.getElem?_eq_getElem hlt')
      have p0 : (0 : Int) ≤ (k : Int) := by omega
      have p1 : (k : Int) < (nl : Int) := by omega
      have p2 : (nl : Int) ≤ 1000 := by omega
      have HHv := H
      subst ea
      clear hx g1 hb1 hlt'
      have hsz := ev_size x
      have hone := evC_one x
      have hs6 : (evC ev0).size = (evC x).size := rfl
      have hz6 := ev0_is
      have hnew : (World.alloc wr (.cells (evC ev0) 41)).heap[(World.heap wr).size]? = some (.cells (evC ev0) 41 (0, 0)) := heap_alloc_new _ _
      obtain ⟨es, hes⟩ : ∃ es, es = evC x := ⟨_, rfl⟩
      have hev : evV x = .agg es := by rw [hes]; rfl
      have HEs := Lib.hid hes
      rw [← hes] at hsz hs6 hone
      clear hes
      go_upto_region 5 with (first
        | (refine load_evm rfl (.tmp 13) rfl b1 (o1 + k * 6) rfl x G1.out ?_; rw [hev])
        | (refine wpList_store_row rfl 41 (.tmp 6) (.tmp 14) rfl (World.heap wr).size _ rfl rfl 41 (evC ev0) hnew hsz hs6 hone ?_))
      rw [HEs.out]
      clear hnew hsz hs6 hone hz6 hev HEs es
      obtain ⟨w4, hw4, he4, hb4⟩ := ev_box wr x
      rw [← hw4]
      obtain ⟨ge, hge⟩ : ∃ g, g = (World.heap wr).size := ⟨_, rfl⟩
      rw [← hge] at he4
      rw [← hge]
      have HGge := Lib.hid hge
      clear hw4 hge
      have HV4 := Lib.hid (show NG w ge x A n c out w4 from ⟨HV.out.keep hb4, he4, fun j hj => by have := (HV.out.own.o.lt j hj).2; have := HGge.out; omega⟩)
      clear HV hb4
      have c0 := he4.cells.1
      have hcut : isCut x = ((x.k == 0) || (x.k == 5)) := rfl
      obtain ⟨q0, hq0⟩ : ∃ q, q = (x.k == 0) := ⟨_, rfl⟩
      obtain ⟨q5, hq5⟩ : ∃ q, q = (x.k == 5) := ⟨_, rfl⟩
      rw [← hq0, ← hq5] at hcut
      have d0 := hq0.symm
      have d5 := hq5.symm
      clear hq0 hq5
      by_cases hc : (q0 || q5) = true
      · have HC := Lib.hid (HK.out.cut HX.out (hcut.trans hc))
        clear hcut
        have hgo : (if q0 = true then true else q5) = true := by cases q0 <;> simp_all
        obtain ⟨hle, hfr⟩ : fr ≤ k ∧ fr ≤ nl := HLn.out.2
        have hcut2 := cutV H.out.r H.out.n HCl.out (i := fr) (j := k) hle hk
        obtain ⟨Ac, hrunc, hRc⟩ := hcut2
        rw [← seg_eq] at hRc
        have hslen : k - fr = ((l.take k).drop fr).length := by rw [List.length_drop, List.length_take, ← H.out.n]; omega
        have HRc := Lib.hid (And.intro hRc hslen)
        have HHd := Lib.hid (show (fr : Int) ≤ (k : Int) ∧ (k : Int) ≤ 1000 by omega)
        have hOne := fun W (hW : Below w.heap.size w W) => oneRef_any Ac (k - fr) (cl - fr) ((l.take k).drop fr) W ((HRc.out.1.below hW).more hW.size) HRc.out.2 (by omega)
        have HOne := Lib.hid hOne
        have f0 : (0 : Int) ≤ (fr : Int) := by omega
        clear hRc hslen hOne hle hfr
        have HN8 := Lib.hid (show ∀ n7, n7 = (oneL ((l.take k).drop fr)).length → n + n7 ≤ 1000000 ∧ n + n7 + 1 ≤ 1000000 from fun n7 h7 => by
          have h1 := one_len' ((l.take k).drop fr)
          rw [List.length_drop, List.length_take] at h1
          have h2 := HLn.out
          omega)
        have hq : q0 = true ∨ (q0 = false ∧ q5 = true) := by cases q0 <;> simp_all
        clear hgo hc
        rcases hq with rfl | ⟨rfl, rfl⟩
        all_goals
          go_upto_region 6 with fail
          refine wp_region_held_drew (S := fun W => EvB W ge x) (by kernel_rfl) (show EvB w4.drew ge x from he4) (fun hHeld => ?_)
          have HG4 := Lib.hid (HV4.out.keep ((Below.refl w4.heap.size w4).drew))
          have hbW4 : Below w.heap.size w w4.drew := HG4.out.v.b
          refine wpAnyH_take (i := 0) (v := ?_) rfl (by kernel_rfl) (by kernel_rfl) (by kernel_rfl) (fun _ _ _ h => h) (Or.inl ⟨by rfl, ?_⟩) hHeld ?_
          rotate_left
          · (intro w hSw; go_simp; (try with_reducible rfl))
          simp only [Act.put, List.getElem_toArray, List.getElem_cons_zero, List.getElem_cons_succ, List.setIfInBounds_toArray, List.set_cons_zero, List.set_cons_succ]
          refine wpAnyH_take (i := 1) (v := ?_) rfl (by kernel_rfl) (by kernel_rfl) (by kernel_rfl) (fun _ _ _ h => h) (Or.inl ⟨by rfl, ?_⟩) hHeld ?_
          rotate_left
          · (intro w hSw; go_simp; (try with_reducible rfl))
          simp only [Act.put, List.getElem_toArray, List.getElem_cons_zero, List.getElem_cons_succ, List.setIfInBounds_toArray, List.set_cons_zero, List.set_cons_succ]
          refine wpAnyH_take (i := 2) (v := ?_) rfl (by kernel_rfl) (by kernel_rfl) (by kernel_rfl) (fun _ _ _ h => h) (Or.inl ⟨by rfl, ?_⟩) hHeld ?_
          rotate_left
          · (intro w hSw; go_simp; (try with_reducible rfl))
          simp only [Act.put, List.getElem_toArray, List.getElem_cons_zero, List.getElem_cons_succ, List.setIfInBounds_toArray, List.set_cons_zero, List.set_cons_succ]
          refine wpAnyH_take (i := 3) (v := ?_) rfl (by kernel_rfl) (by kernel_rfl) (by kernel_rfl) (fun _ _ _ h => h) (Or.inl ⟨by rfl, ?_⟩) hHeld ?_
          rotate_left
          · (intro w hSw; go_simp; (try with_reducible rfl))
          simp only [Act.put, List.getElem_toArray, List.getElem_cons_zero, List.getElem_cons_succ, List.setIfInBounds_toArray, List.set_cons_zero, List.set_cons_succ]
          refine wpAnyH_take (i := 4) (v := ?_) rfl (by kernel_rfl) (by kernel_rfl) (by kernel_rfl) (fun _ _ _ h => h) (Or.inl ⟨by rfl, ?_⟩) hHeld ?_
          rotate_left
          · (intro w hSw; go_simp; (try with_reducible rfl))
          simp only [Act.put, List.getElem_toArray, List.getElem_cons_zero, List.getElem_cons_succ, List.setIfInBounds_toArray, List.set_cons_zero, List.set_cons_succ]
          refine wpAnyH_take (i := 7) (v := evV x) rfl (by kernel_rfl) (by kernel_rfl) (by kernel_rfl) (fun _ _ _ h => h) (yields_evb (by rfl) (.tmp 6) rfl ge rfl x (fun W h => h)) hHeld ?_
          simp only [Act.put, List.getElem_toArray, List.getElem_cons_zero, List.getElem_cons_succ, List.setIfInBounds_toArray, List.set_cons_zero, List.set_cons_succ]
          obtain ⟨w5, hw5⟩ : ∃ w5, w5 = w4.drew := ⟨_, rfl⟩
          rw [← hw5] at HG4 hHeld hbW4
          rw [← hw5]
          clear hw5 HV4 he4 c0
          refine wpAnyH_ready (rs := [5, 8]) (by kernel_rfl) (by simp) ?_
          refine AllReadyH.cons rfl (fun K hK => ?_) (AllReadyH.cons rfl (fun K hK => ?_) AllReadyH.nil)
          all_goals (try simp only [List.getElem_toArray, List.getElem_cons_zero, List.getElem_cons_succ])
          · go_simp
            refine (HOne.out _ hbW4).mono ?_
            rintro en w6 ⟨A7, n7, c7, rfl, hV7⟩
            go_wp2_with fail
            have hn7 := (HN8.out n7 hV7.own.len).1
            have hn8 := (HN8.out n7 hV7.own.len).2
            have HG6 := Lib.hid (HG4.out.keep hV7.b)
            have hHeld := HG6.out.e
            refine hK.out _ _ hHeld (fun _ => ?_)
            clear hK K
            try simp only [Act.put, List.setIfInBounds_toArray, List.set_cons_zero, List.set_cons_succ]
            refine wpAnyH_ready (rs := [6, 8]) (by kernel_rfl) (by simp) ?_
            refine AllReadyH.cons rfl (fun K hK => ?_) (AllReadyH.cons rfl (fun K hK => ?_) AllReadyH.nil)
            all_goals (try simp only [List.getElem_toArray, List.getElem_cons_zero, List.getElem_cons_succ])
            · skip
              refine wp_appV (.tmp 23) (.tmp 28) rfl w.heap.size A n c _ rfl HG6.out.v.own _ A7 n7 c7 _ rfl hV7.own.rd hV7.own.len hn7 HG6.out.v.b.size ?_
              intro A8 c8 w7 ho8 hg8 hat8
              have HG7 := Lib.hid (HG6.out.app ho8 hg8 hat8)
              have hHeld := HG7.out.e
              refine hK.out _ _ hHeld (fun _ => ?_)
              clear hK K
              try simp only [Act.put, List.setIfInBounds_toArray, List.set_cons_zero, List.set_cons_succ]
              refine wpAnyH_ready (rs := [8]) (by kernel_rfl) (by simp) ?_
              refine AllReadyH.cons rfl (fun K hK => ?_) AllReadyH.nil
              simp only [List.getElem_toArray, List.getElem_cons_zero, List.getElem_cons_succ]
              refine wp_buildSliceEv (.tmp 30) rfl x rfl ?_
              have HG8 := Lib.hid HG7.out.built
              have HH8 := Lib.hid (HG7.out.keep ((Below.refl _ _).alloc (Nat.le_refl _) (.cells (evC x) 41)))
              have hHeld := HH8.out.e
              refine hK.out _ _ hHeld (fun _ => ?_)
              clear hK K
              try simp only [Act.put, List.setIfInBounds_toArray, List.set_cons_zero, List.set_cons_succ]
              refine wpAnyH_ready (rs := [9]) (by kernel_rfl) (by simp) ?_
              refine AllReadyH.cons rfl (fun K hK => ?_) AllReadyH.nil
              simp only [List.getElem_toArray, List.getElem_cons_zero, List.getElem_cons_succ]
              refine wp_appV (.tmp 29) (.tmp 31) rfl w.heap.size A8 (n + n7) c8 _ rfl HG8.out.v.own _ (some ⟨w7.heap.size, 0, none⟩) 1 1 [x] rfl (rdV_one HG8.out.e) rfl hn8 HG8.out.v.b.size ?_
              intro A9 c9 w9 ho9 hg9 hat9
              have HS9 := Lib.hid (show NG w ge x A9 (n + n7 + 1) c9 (out ++ oneL ((l.take k).drop fr) ++ [x]) w9 from HH8.out.app ho9 hg9 hat9)
              have hHeld := HS9.out.e
              refine hK.out _ _ hHeld (fun _ => ?_)
              clear hK K
              try simp only [Act.put, List.setIfInBounds_toArray, List.set_cons_zero, List.set_cons_succ]
              refine wpAnyH_take (i := 10) (v := ?_) rfl (by kernel_rfl) (by kernel_rfl) (by kernel_rfl) (fun _ _ _ h => h) (Or.inl ⟨by rfl, ?_⟩) hHeld ?_
              rotate_left
              · (intro w hSw; go_simp; (try with_reducible rfl))
              simp only [Act.put, List.getElem_toArray, List.getElem_cons_zero, List.getElem_cons_succ, List.setIfInBounds_toArray, List.set_cons_zero, List.set_cons_succ]
              refine wpAnyH_done (by kernel_rfl) ?_ _
              have HV9 := Lib.hid HS9.out.v
              clear hHeld HS9 ho9 hg9 hat9
              clear HOne HRc
              go_wp2_with fail
              go_roundw
              case rel => exact ⟨k + 1, k + 1, _, _, _, _, by go_num, by go_num, rfl, by omega, HC, HV9⟩
              case measure => simp [intOf]; omega
            · skip
              refine wp_buildSliceEv (.tmp 30) rfl x rfl ?_
              have HG8 := Lib.hid HG6.out.built
              have HH8 := Lib.hid (HG6.out.keep ((Below.refl _ _).alloc (Nat.le_refl _) (.cells (evC x) 41)))
              have hHeld := HH8.out.e
              refine hK.out _ _ hHeld (fun _ => ?_)
              clear hK K
              try simp only [Act.put, List.setIfInBounds_toArray, List.set_cons_zero, List.set_cons_succ]
              refine wpAnyH_ready (rs := [6]) (by kernel_rfl) (by simp) ?_
              refine AllReadyH.cons rfl (fun K hK => ?_) AllReadyH.nil
              simp only [List.getElem_toArray, List.getElem_cons_zero, List.getElem_cons_succ]
              refine wp_appV (.tmp 23) (.tmp 28) rfl w.heap.size A n c _ rfl HH8.out.v.own _ A7 n7 c7 _ rfl (hV7.own.below ((Below.refl _ _).alloc (Nat.le_refl _) (.cells (evC x) 41))).rd hV7.own.len hn7 HH8.out.v.b.size ?_
              intro A8 c8 w7 ho8 hg8 hat8
              have HG9 := Lib.hid (HG8.out.app ho8 hg8 hat8)
              have HH9 := Lib.hid (HH8.out.app ho8 hg8 hat8)
              have hHeld := HH9.out.e
              refine hK.out _ _ hHeld (fun _ => ?_)
              clear hK K
              try simp only [Act.put, List.setIfInBounds_toArray, List.set_cons_zero, List.set_cons_succ]
              refine wpAnyH_ready (rs := [9]) (by kernel_rfl) (by simp) ?_
              refine AllReadyH.cons rfl (fun K hK => ?_) AllReadyH.nil
              simp only [List.getElem_toArray, List.getElem_cons_zero, List.getElem_cons_succ]
              refine wp_appV (.tmp 29) (.tmp 31) rfl w.heap.size A8 (n + n7) c8 _ rfl HG9.out.v.own _ (some ⟨w6.heap.size, 0, none⟩) 1 1 [x] rfl (rdV_one HG9.out.e) rfl hn8 HG9.out.v.b.size ?_
              intro A9 c9 w9 ho9 hg9 hat9
              have HS9 := Lib.hid (show NG w ge x A9 (n + n7 + 1) c9 (out ++ oneL ((l.take k).drop fr) ++ [x]) w9 from HH9.out.app ho9 hg9 hat9)
              have hHeld := HS9.out.e
              refine hK.out _ _ hHeld (fun _ => ?_)
              clear hK K
              try simp only [Act.put, List.setIfInBounds_toArray, List.set_cons_zero, List.set_cons_succ]
              refine wpAnyH_take (i := 10) (v := ?_) rfl (by kernel_rfl) (by kernel_rfl) (by kernel_rfl) (fun _ _ _ h => h) (Or.inl ⟨by rfl, ?_⟩) hHeld ?_
              rotate_left
              · (intro w hSw; go_simp; (try with_reducible rfl))
              simp only [Act.put, List.getElem_toArray, List.getElem_cons_zero, List.getElem_cons_succ, List.setIfInBounds_toArray, List.set_cons_zero, List.set_cons_succ]
              refine wpAnyH_done (by kernel_rfl) ?_ _
              have HV9 := Lib.hid HS9.out.v
              clear hHeld HS9 ho9 hg9 hat9
              clear HOne HRc
              go_wp2_with fail
              go_roundw
              case rel => exact ⟨k + 1, k + 1, _, _, _, _, by go_num, by go_num, rfl, by omega, HC, HV9⟩
              case measure => simp [intOf]; omega
          · skip
            refine wp_buildSliceEv (.tmp 30) rfl x rfl ?_
            have HG5 := Lib.hid HG4.out.built
            have HH5 := Lib.hid (HG4.out.keep ((Below.refl _ _).alloc (Nat.le_refl _) (.cells (evC x) 41)))
            have hHeld := HH5.out.e
            have hbW5 : Below w.heap.size w (w5.alloc (.cells (evC x) 41)) := HH5.out.v.b
            refine hK.out _ _ hHeld (fun _ => ?_)
            clear hK K
            try simp only [Act.put, List.setIfInBounds_toArray, List.set_cons_zero, List.set_cons_succ]
            refine wpAnyH_ready (rs := [5]) (by kernel_rfl) (by simp) ?_
            refine AllReadyH.cons rfl (fun K hK => ?_) AllReadyH.nil
            simp only [List.getElem_toArray, List.getElem_cons_zero, List.getElem_cons_succ]
            go_simp
            refine (HOne.out _ hbW5).mono ?_
            rintro en w6 ⟨A7, n7, c7, rfl, hV7⟩
            go_wp2_with fail
            have hn7 := (HN8.out n7 hV7.own.len).1
            have hn8 := (HN8.out n7 hV7.own.len).2
            have HG6 := Lib.hid (HG5.out.keep hV7.b)
            have HH6 := Lib.hid (HH5.out.keep hV7.b)
            have hHeld := HH6.out.e
            refine hK.out _ _ hHeld (fun _ => ?_)
            clear hK K
            try simp only [Act.put, List.setIfInBounds_toArray, List.set_cons_zero, List.set_cons_succ]
            refine wpAnyH_ready (rs := [6]) (by kernel_rfl) (by simp) ?_
            refine AllReadyH.cons rfl (fun K hK => ?_) AllReadyH.nil
            simp only [List.getElem_toArray, List.getElem_cons_zero, List.getElem_cons_succ]
            refine wp_appV (.tmp 23) (.tmp 28) rfl w.heap.size A n c _ rfl HH6.out.v.own _ A7 n7 c7 _ rfl hV7.own.rd hV7.own.len hn7 HH6.out.v.b.size ?_
            intro A8 c8 w7 ho8 hg8 hat8
            have HG9 := Lib.hid (HG6.out.app ho8 hg8 hat8)
            have HH9 := Lib.hid (HH6.out.app ho8 hg8 hat8)
            have hHeld := HH9.out.e
            refine hK.out _ _ hHeld (fun _ => ?_)
            clear hK K
            try simp only [Act.put, List.setIfInBounds_toArray, List.set_cons_zero, List.set_cons_succ]
            refine wpAnyH_ready (rs := [9]) (by kernel_rfl) (by simp) ?_
            refine AllReadyH.cons rfl (fun K hK => ?_) AllReadyH.nil
            simp only [List.getElem_toArray, List.getElem_cons_zero, List.getElem_cons_succ]
            refine wp_appV (.tmp 29) (.tmp 31) rfl w.heap.size A8 (n + n7) c8 _ rfl HG9.out.v.own _ (some ⟨w5.heap.size, 0, none⟩) 1 1 [x] rfl (rdV_one HG9.out.e) rfl hn8 HG9.out.v.b.size ?_
            intro A9 c9 w9 ho9 hg9 hat9
            have HS9 := Lib.hid (show NG w ge x A9 (n + n7 + 1) c9 (out ++ oneL ((l.take k).drop fr) ++ [x]) w9 from HH9.out.app ho9 hg9 hat9)
            have hHeld := HS9.out.e
            refine hK.out _ _ hHeld (fun _ => ?_)
            clear hK K
            try simp only [Act.put, List.setIfInBounds_toArray, List.set_cons_zero, List.set_cons_succ]
            refine wpAnyH_take (i := 10) (v := ?_) rfl (by kernel_rfl) (by kernel_rfl) (by kernel_rfl) (fun _ _ _ h => h) (Or.inl ⟨by rfl, ?_⟩) hHeld ?_
            rotate_left
            · (intro w hSw; go_simp; (try with_reducible rfl))
            simp only [Act.put, List.getElem_toArray, List.getElem_cons_zero, List.getElem_cons_succ, List.setIfInBounds_toArray, List.set_cons_zero, List.set_cons_succ]
            refine wpAnyH_done (by kernel_rfl) ?_ _
            have HV9 := Lib.hid HS9.out.v
            clear hHeld HS9 ho9 hg9 hat9
            clear HOne HRc
            go_wp2_with fail
            go_roundw
            case rel => exact ⟨k + 1, k + 1, _, _, _, _, by go_num, by go_num, rfl, by omega, HC, HV9⟩
            case measure => simp [intOf]; omega
      · obtain ⟨rfl, rfl⟩ : q0 = false ∧ q5 = false := by cases q0 <;> cases q5 <;> simp_all
        have HC := Lib.hid (HK.out.more HX.out hcut)
        have HV9 := Lib.hid HV4.out.v
        clear hc hcut HV4 he4
        go_wp2_with fail
        go_roundw
        case rel => exact ⟨k + 1, fr, _, _, _, _, by go_num, rfl, rfl, by omega, HC, HV9⟩
        case measure => simp [intOf]; omega
    · obtain rfl : k = nl := by omega
      have hfull : l.take k = l := by rw [H.out.n, List.take_length]
      have hnet := HK.out.net
      rw [hfull] at hnet
      have HNet := Lib.hid hnet
      have hfr : fr ≤ k := HLn.out.2.1
      obtain ⟨Ac, hrunc, hRc⟩ := cutV_from H.out.r H.out.n HCl.out (i := fr) hfr
      have hslen : k - fr = (l.drop fr).length := by rw [List.length_drop, ← H.out.n]
      have hone := oneRef_any Ac (k - fr) (cl - fr) (l.drop fr) wr ((hRc.below HV.out.b).more HV.out.b.size) hslen (by omega)
      have f0 : (0 : Int) ≤ (fr : Int) := by omega
      have f1 : (fr : Int) ≤ (k : Int) := by omega
      have HN8 := Lib.hid (show ∀ n7, n7 = (oneL (l.drop fr)).length → n + n7 ≤ 1000000 from fun n7 h7 => by
        have h1 := one_len' (l.drop fr)
        rw [List.length_drop] at h1
        have h2 := HLn.out
        have h3 := H.out.n
        omega)
      clear hfull hnet hRc hslen hfr HK
      go_wp2_with fail
      refine hone.mono ?_
      rintro en w6 ⟨A7, n7, c7, rfl, hV7⟩
      have HV6 := Lib.hid (HV.out.keep hV7.b)
      have hO6 := HV6.out.own
      have hR7 := hV7.own.rd
      have hn7 := HN8.out n7 hV7.own.len
      have HL7 := Lib.hid hV7.own.len
      have hs6 := HV6.out.b.size
      clear hone HV hV7 hrunc
      go_wp2_with (at_builtin; refine wpList_appV rfl (.tmp 36) (.tmp 40) rfl w.heap.size A n c _ rfl hO6 _ A7 n7 c7 _ rfl hR7 HL7.out hn7 hs6 ?_; intro A8 c8 w8 ho8 hg8)
      have hV8 := HV6.out.app ho8 hg8
      go_ret
      exact ⟨_, _, _, rfl, by rw [HNet.out]; exact hV8⟩
end Go.Proofs.Ytncmfkmgaghklaa
