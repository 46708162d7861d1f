/- Layer 15: the law KnowSees. -/
import Derived.Test.YtmhabodijmnldaaDoorKwAlive
import Derived.Test.YtmhabodijmnldaaDoorKwSeesR
import Derived.Test.YtmhabodijmnldaaDoorEvLd
import Derived.Test.YtmhabodijmnldaaDoorKwG0
import Derived.Test.YtmhabodijmnldaaDoorIs
namespace Go.Proofs.YtmhabodijmnldaaDoor
open Go.RowKit Ex
set_option maxRecDepth 100000
/-- What Sees answers beside the state. -/
def seesE (s : StT) (p : Int) : Int := if chkS s ≠ 0 then chkS s else if p = 0 ∨ p = 1 then 0 else 1
def seesT (s : StT) (p : Int) : StT := if seesE s p = 0 then seeS p s else sT0
/-- What Sees answers. -/
def KwSees (z : World) : Prop := ∀ (s : StT) (O : SlT) (L : Nat → SlT) (cs : Array Value) (p : Int) (w : World), ReadsS w.heap.size w cs s O L → s.objs.length ≤ 1000 → (∀ z < 11, (s.lists z).length ≤ 1000) → N64 p → Below z.heap.size z w →
  Calls Tryd.prog 8 #[.agg cs, .int .i64 p] w fun en w' => ∃ cs' O' L', en = .returned (.tuple #[.agg cs', errV (seesE s p)]) ∧ ReadsS w'.heap.size w' cs' (seesT s p) O' L' ∧ Below w.heap.size w w'
theorem seesT_bad {s : StT} {p : Int} (h : seesE s p ≠ 0) : seesT s p = sT0 := if_neg h
theorem seesT_ok {s : StT} {p : Int} (h : seesE s p = 0) : seesT s p = seeS p s := if_pos h
theorem build_s0 (W : World) : (Instr.build 29 #[]).run Tryd.prog W = .ok (.agg st0) W := by kernel_rfl
theorem wpList_buildS0 {ops : Array Oper} {rest : List Oper} {op : Oper} {a : Act} {w : World} {Q : Exit → Act → World → Prop} (hw : Region.wanted op (yielded ops a.tmps) = true) (ho : op.op = .build 29 #[])
    (hK : wpList Tryd.prog ops Q rest (a.put op.dst (.agg st0)) w) : wpList Tryd.prog ops Q (op :: rest) a w := by
  refine BigFrame.wpList_want hw fun K' hK' => ?_
  unfold Oper.wp
  simp [execOp, ho, build_s0, Result.andThen]
  exact hK' _ _ hK
/-- A box that holds a state. -/
structure BK (g : Nat) (cs : Array Value) (s : StT) (O : SlT) (L : Nat → SlT) (W : World) : Prop where
  a : StAt W g cs
  r : ReadsS W.heap.size W cs s O L
theorem BK.keep {g : Nat} {cs : Array Value} {s : StT} {O : SlT} {L : Nat → SlT} {W W' : World} (h : BK g cs s O L W) (hb : Below W.heap.size W W') : BK g cs s O L W' := ⟨h.a.keep hb, h.r.grow hb⟩
set_option linter.unusedSimpArgs false in
set_option maxHeartbeats 0 in
theorem knowSees_walk {w : World} (E : KwSaid w) (ES : KwSees w) (s : StT) (O : SlT) (L : Nat → SlT) (cs : Array Value) (p : Int) (hR : ReadsS w.heap.size w cs s O L) (hp : N64 p) :
    Calls Tryd.prog 3 #[.agg cs, .int .i64 p] w fun en w' => en = .returned (.bool true) ∧ Below w.heap.size w w' := by
  have hcs := hR.size
  have HR := Lib.hid hR
  have HP := Lib.hid hp
  clear hR hp
  go_enter Tryd.func3, Tryd.ntmps3
  go_upto_region 1 with fail
  obtain ⟨w1, hw1⟩ : ∃ w1, w1 = w.alloc (.cells cs 29) := ⟨_, rfl⟩
  obtain ⟨gs, hgs⟩ : ∃ g, g = w.heap.size := ⟨_, rfl⟩
  have HW := Lib.hid (show KW w gs cs w1 from by
    rw [hw1, hgs]
    exact ⟨(Below.refl _ _).alloc (Nat.le_refl _) _, StAt.new w cs⟩)
  show Code.wp _ _ _ _ (w.alloc (.cells cs 29))
  rw [← hw1, ← hgs]
  have HGs := Lib.hid hgs
  clear hw1 hgs
  go_wp2_with fail
  refine (kwAlive E w1 HW.out.b).mono ?_
  rintro en w2 ⟨rfl, hb2⟩
  have HW2 := Lib.hid (HW.out.keep hb2)
  have hsa := HW2.out.a
  clear HW hb2
  go_wp2_with (refine load_wantS (by rfl) (.tmp 2) rfl gs rfl cs hsa hcs ?_)
  have hl := long_any s O L cs 60 w2 w2.heap.size (HW2.out.reads HR.out) (by omega)
  rw [show ((60 : Nat) : Int) = 60 from rfl] at hl
  refine hl.mono ?_
  clear hl hsa
  rintro en w3 ⟨rfl, hb3⟩
  have HW3 := Lib.hid (HW2.out.keep hb3)
  clear HW2 hb3
  by_cases hlg : longS s 60 = true
  · have hbw := HW3.out.b
    rw [hlg]
    go_wp2_with fail
    go_ret
    exact ⟨rfl, hbw⟩
  replace hlg : longS s 60 = false := by simpa using hlg
  obtain ⟨hn, hll⟩ := long_not (most := 60) hlg
  rw [hlg]
  have HNl := Lib.hid (And.intro hn hll)
  clear hlg hn hll
  have HLs := Lib.hid (show s.objs.length ≤ 1000 ∧ ∀ z < 11, (s.lists z).length ≤ 1000 from ⟨by have := HNl.out.1; omega, fun z hz => by have := HNl.out.2 z hz; omega⟩)
  have HLm := Lib.hid (show s.objs.length ≤ 1000000 ∧ ∀ z < 11, (s.lists z).length ≤ 1000000 from ⟨by have := HNl.out.1; omega, fun z hz => by have := HNl.out.2 z hz; omega⟩)
  -- was
  have hsa := HW3.out.a
  have hcp := numCopy_any s O L cs w3 (HW3.out.reads HR.out) HLm.out.1 HLm.out.2
  go_wp2_with (refine load_wantS (by rfl) (.tmp 2) rfl gs rfl cs hsa hcs ?_)
  refine hcp.mono ?_
  rintro en w4 ⟨cW, rfl, OW, LW', hRW, _, _, hb4⟩
  clear hcp hsa
  have HW4 := Lib.hid (HW3.out.keep hb4)
  have hcW := hRW.size
  clear HW3 hb4
  have hnew : (World.alloc w4 (.cells st0 29)).heap[(World.heap w4).size]? = some (.cells st0 29 (0, 0)) := heap_alloc_new _ _
  have hsz : (Tryd.prog.info? 29).map (·.size) = some cW.size := by rw [hRW.size]; exact size37
  have hs0 : st0.size = cW.size := by rw [hRW.size, show st0.size = 37 from stC_size _ _ _ _]
  have hone := hRW.one
  have hz := st0_is
  go_upto_region 6 with (refine wpList_store_row rfl 29 (.tmp 5) (.tmp 14) rfl (World.heap w4).size _ rfl rfl 29 st0 hnew hsz hs0 hone ?_)
  clear hnew hsz hs0 hone hz
  obtain ⟨w5, hw5, hA5, hb5⟩ := box_new w4 cW
  rw [← hw5]
  have HW5 := Lib.hid (HW4.out.keep hb5)
  have HB5 := Lib.hid (show BK w4.heap.size cW s OW LW' w5 from ⟨hA5, hRW.grow hb5⟩)
  obtain ⟨g5, hg5⟩ : ∃ g, g = w4.heap.size := ⟨_, rfl⟩
  rw [← hg5] at HB5 ⊢
  clear hw5 hA5 hb5 hRW HW4 hg5
  -- t, e
  obtain ⟨e, he⟩ : ∃ e, e = seesE s p := ⟨_, rfl⟩
  obtain ⟨t, ht⟩ : ∃ t, t = seesT s p := ⟨_, rfl⟩
  have hsee := ES s O L cs p w5 (HW5.out.reads HR.out) HLs.out.1 HLs.out.2 HP.out HW5.out.b
  rw [← he, ← ht] at hsee
  have HE := Lib.hid he
  have HT := Lib.hid ht
  have hsa := HW5.out.a
  clear he ht
  go_wp2_with (refine load_wantS (by rfl) (.tmp 2) rfl gs rfl cs hsa hcs ?_)
  refine hsee.mono ?_
  rintro en w6 ⟨cT, OT, LT, rfl, hRT, hb6⟩
  clear hsee hsa
  have HW6 := Lib.hid (HW5.out.keep hb6)
  have HB6 := Lib.hid (HB5.out.keep hb6)
  have hcT := hRT.size
  clear HW5 HB5 hb6
  have hnew : (World.alloc w6 (.cells st0 29)).heap[(World.heap w6).size]? = some (.cells st0 29 (0, 0)) := heap_alloc_new _ _
  have hsz : (Tryd.prog.info? 29).map (·.size) = some cT.size := by rw [hRT.size]; exact size37
  have hs0 : st0.size = cT.size := by rw [hRT.size, show st0.size = 37 from stC_size _ _ _ _]
  have hone := hRT.one
  have hz := st0_is
  go_upto_region 7 with (refine wpList_store_row rfl 29 (.tmp 6) (.tmp 19) rfl (World.heap w6).size _ rfl rfl 29 st0 hnew hsz hs0 hone ?_)
  clear hnew hsz hs0 hone hz
  obtain ⟨w7, hw7, hA7, hb7⟩ := box_new w6 cT
  rw [← hw7]
  have HW7 := Lib.hid (HW6.out.keep hb7)
  have HB7 := Lib.hid (HB6.out.keep hb7)
  have HT7 := Lib.hid (show BK w6.heap.size cT t OT LT w7 from ⟨hA7, hRT.grow hb7⟩)
  obtain ⟨g6, hg6⟩ : ∃ g, g = w6.heap.size := ⟨_, rfl⟩
  rw [← hg6] at HT7 ⊢
  clear hw7 hA7 hb7 hRT HW6 HB6 hg6
  -- nothing is turned
  have hst := states_any s s O OW L LW' cs cW w7 (HW7.out.reads HR.out) HB7.out.r HLm.out.1 HLm.out.1 HLm.out.2 HLm.out.2
  rw [sameS_refl] at hst
  have hsa := HW7.out.a
  have hsb := HB7.out.a
  go_wp2_with (first
    | (refine load_wantS (by rfl) (.tmp 2) rfl gs rfl cs hsa hcs ?_)
    | (refine load_wantS (by rfl) (.tmp 5) rfl g5 rfl cW hsb hcW ?_))
  refine hst.mono ?_
  rintro en w8 ⟨rfl, hb8⟩
  clear hst hsa hsb
  have HW8 := Lib.hid (HW7.out.keep hb8)
  have HT8 := Lib.hid (HT7.out.keep hb8)
  clear HW7 HT7 HB7 hb8 hcW
  -- bad
  obtain ⟨bad, hbad⟩ : ∃ b, b = chkS s := ⟨_, rfl⟩
  have hck := st_checkRef_any s O L cs w8 w8.heap.size (HW8.out.reads HR.out) (Nat.le_refl _) HLm.out.1 HLm.out.2
  rw [← hbad] at hck
  have HBad := Lib.hid hbad
  have hsa := HW8.out.a
  clear hbad
  go_wp2_with (refine load_wantS (by rfl) (.tmp 2) rfl gs rfl cs hsa hcs ?_)
  refine hck.mono ?_
  rintro en w9 ⟨rfl, hb9⟩
  clear hck hsa
  have HW9 := Lib.hid (HW8.out.keep hb9)
  have HT9 := Lib.hid (HT8.out.keep hb9)
  have hz := st0_is
  clear HW8 HT8 hb9
  by_cases hb0 : bad = 0
  · have hE : seesE s p = if p = 0 ∨ p = 1 then 0 else 1 := by unfold seesE; rw [← HBad.out, if_neg (by simp [hb0])]
    by_cases hpp : p = 0 ∨ p = 1
    · have hE0 : e = 0 := by rw [HE.out, hE, if_pos hpp]
      have HTe := Lib.hid (show t = seeS p s from by rw [HT.out]; exact seesT_ok (by rw [← HE.out]; exact hE0))
      subst hE0
      subst hb0
      rw [errV_nil]
      have HSr := Lib.hid (fun W (hW : KW w gs cs W) => seesRef_any s O L cs p W (hW.reads HR.out) HLs.out.1 HLs.out.2)
      have HTl := Lib.hid (show t.objs.length ≤ 1000000 ∧ ∀ z < 11, (t.lists z).length ≤ 1000000 from by
        rw [HTe.out]; exact ⟨by show (s.objs.map _).length ≤ _; rw [List.length_map]; exact HLm.out.1, HLm.out.2⟩)
      rw [← HTe.out] at HSr
      have HG := Lib.hid HT9.out.a.lt
      clear hE HE HT HTe HBad HNl
      rcases hpp with rfl | rfl
      · skip
        go_upto_region 14 with fail
        refine wp_region_held_drew (S := fun W => KW w gs cs W ∧ BK g6 cT t OT LT W) (by kernel_rfl) (show KW w gs cs w9.drew ∧ BK g6 cT t OT LT w9.drew from ⟨HW9.out.keep (Below.refl _ _).drew, HT9.out.keep (Below.refl _ _).drew⟩) (fun hHeld => ?_)
        refine wpAnyH_take (i := 0) (v := ?_) rfl (by kernel_rfl) (by kernel_rfl) (by kernel_rfl) (fun _ _ _ h => h) (Or.inl ⟨by rfl, ?_⟩) hHeld ?_
        rotate_left
        · (intro w hSw; go_simp; (try with_reducible rfl))
        simp only [Act.put, List.getElem_toArray, List.getElem_cons_zero, List.getElem_cons_succ, List.setIfInBounds_toArray, List.set_cons_zero, List.set_cons_succ]
        refine wpAnyH_take (i := 1) (v := ?_) rfl (by kernel_rfl) (by kernel_rfl) (by kernel_rfl) (fun _ _ _ h => h) (Or.inl ⟨by rfl, ?_⟩) hHeld ?_
        rotate_left
        · (intro w hSw; go_simp; (try with_reducible rfl))
        simp only [Act.put, List.getElem_toArray, List.getElem_cons_zero, List.getElem_cons_succ, List.setIfInBounds_toArray, List.set_cons_zero, List.set_cons_succ]
        refine wpAnyH_take (i := 2) (v := ?_) rfl (by kernel_rfl) (by kernel_rfl) (by kernel_rfl) (fun _ _ _ h => h) (Or.inl ⟨by rfl, ?_⟩) hHeld ?_
        rotate_left
        · (intro w hSw; go_simp; (try with_reducible rfl))
        simp only [Act.put, List.getElem_toArray, List.getElem_cons_zero, List.getElem_cons_succ, List.setIfInBounds_toArray, List.set_cons_zero, List.set_cons_succ]
        refine wpAnyH_take (i := 3) (v := .agg cT) rfl (by kernel_rfl) (by kernel_rfl) (by kernel_rfl) (fun _ _ _ h => h) (yields_st (by rfl) (.tmp 6) rfl g6 rfl cT hcT (fun W hW => hW.2.a)) hHeld ?_
        simp only [Act.put, List.getElem_toArray, List.getElem_cons_zero, List.getElem_cons_succ, List.setIfInBounds_toArray, List.set_cons_zero, List.set_cons_succ]
        refine wpAnyH_take (i := 4) (v := .agg cs) rfl (by kernel_rfl) (by kernel_rfl) (by kernel_rfl) (fun _ _ _ h => h) (yields_st (by rfl) (.tmp 2) rfl gs rfl cs hcs (fun W hW => hW.1.a)) hHeld ?_
        simp only [Act.put, List.getElem_toArray, List.getElem_cons_zero, List.getElem_cons_succ, List.setIfInBounds_toArray, List.set_cons_zero, List.set_cons_succ]
        refine wpAnyH_take (i := 5) (v := ?_) rfl (by kernel_rfl) (by kernel_rfl) (by kernel_rfl) (fun _ _ _ h => h) (Or.inl ⟨by rfl, ?_⟩) hHeld ?_
        rotate_left
        · (intro w hSw; go_simp; (try with_reducible rfl))
        simp only [Act.put, List.getElem_toArray, List.getElem_cons_zero, List.getElem_cons_succ, List.setIfInBounds_toArray, List.set_cons_zero, List.set_cons_succ]
        refine wpAnyH_ready (rs := [6]) (by kernel_rfl) (by simp) ?_
        refine AllReadyH.cons rfl (fun K hK => ?_) AllReadyH.nil
        simp only [List.getElem_toArray, List.getElem_cons_zero, List.getElem_cons_succ]
        go_simp
        refine (HSr.out _ hHeld.1).mono ?_
        rintro en wA ⟨cA, OA, LA, rfl, hRA, hbA⟩
        go_wp2_with fail
        have hHeld := And.intro (hHeld.1.keep hbA) (hHeld.2.keep hbA)
        have HRA := Lib.hid hRA
        refine hK.out _ _ hHeld (fun _ => ?_)
        clear hK K
        try simp only [Act.put, List.setIfInBounds_toArray, List.set_cons_zero, List.set_cons_succ]
        clear hRA
        refine wpAnyH_ready (rs := [7]) (by kernel_rfl) (by simp) ?_
        refine AllReadyH.cons rfl (fun K hK => ?_) AllReadyH.nil
        simp only [List.getElem_toArray, List.getElem_cons_zero, List.getElem_cons_succ]
        go_simp
        have hst := states_any t t OT OA LT LA cT cA wA hHeld.2.r HRA.out HTl.out.1 HTl.out.1 HTl.out.2 HTl.out.2
        rw [sameS_refl] at hst
        refine hst.mono ?_
        clear hst
        rintro en wB ⟨rfl, hbB⟩
        go_wp2_with fail
        have hHeld := And.intro (hHeld.1.keep hbB) (hHeld.2.keep hbB)
        refine hK.out _ _ hHeld (fun _ => ?_)
        clear hK K
        try simp only [Act.put, List.setIfInBounds_toArray, List.set_cons_zero, List.set_cons_succ]
        refine wpAnyH_take (i := 8) (v := ?_) rfl (by kernel_rfl) (by kernel_rfl) (by kernel_rfl) (fun _ _ _ h => h) (Or.inl ⟨by rfl, ?_⟩) hHeld ?_
        rotate_left
        · (intro w hSw; go_simp; (try with_reducible rfl))
        simp only [Act.put, List.getElem_toArray, List.getElem_cons_zero, List.getElem_cons_succ, List.setIfInBounds_toArray, List.set_cons_zero, List.set_cons_succ]
        refine wpAnyH_take (i := 9) (v := ?_) rfl (by kernel_rfl) (by kernel_rfl) (by kernel_rfl) (fun _ _ _ h => h) (Or.inl ⟨by rfl, ?_⟩) hHeld ?_
        rotate_left
        · (intro w hSw; go_simp; (try with_reducible rfl))
        simp only [Act.put, List.getElem_toArray, List.getElem_cons_zero, List.getElem_cons_succ, List.setIfInBounds_toArray, List.set_cons_zero, List.set_cons_succ]
        refine wpAnyH_done (by kernel_rfl) ?_ _
        have HF := Lib.hid hHeld.1.b
        clear hHeld
        go_wp2_with fail
        go_ret
        exact ⟨rfl, HF.out⟩
      · skip
        go_upto_region 14 with fail
        refine wp_region_held_drew (S := fun W => KW w gs cs W ∧ BK g6 cT t OT LT W) (by kernel_rfl) (show KW w gs cs w9.drew ∧ BK g6 cT t OT LT w9.drew from ⟨HW9.out.keep (Below.refl _ _).drew, HT9.out.keep (Below.refl _ _).drew⟩) (fun hHeld => ?_)
        refine wpAnyH_take (i := 0) (v := ?_) rfl (by kernel_rfl) (by kernel_rfl) (by kernel_rfl) (fun _ _ _ h => h) (Or.inl ⟨by rfl, ?_⟩) hHeld ?_
        rotate_left
        · (intro w hSw; go_simp; (try with_reducible rfl))
        simp only [Act.put, List.getElem_toArray, List.getElem_cons_zero, List.getElem_cons_succ, List.setIfInBounds_toArray, List.set_cons_zero, List.set_cons_succ]
        refine wpAnyH_take (i := 1) (v := ?_) rfl (by kernel_rfl) (by kernel_rfl) (by kernel_rfl) (fun _ _ _ h => h) (Or.inl ⟨by rfl, ?_⟩) hHeld ?_
        rotate_left
        · (intro w hSw; go_simp; (try with_reducible rfl))
        simp only [Act.put, List.getElem_toArray, List.getElem_cons_zero, List.getElem_cons_succ, List.setIfInBounds_toArray, List.set_cons_zero, List.set_cons_succ]
        refine wpAnyH_take (i := 2) (v := ?_) rfl (by kernel_rfl) (by kernel_rfl) (by kernel_rfl) (fun _ _ _ h => h) (Or.inl ⟨by rfl, ?_⟩) hHeld ?_
        rotate_left
        · (intro w hSw; go_simp; (try with_reducible rfl))
        simp only [Act.put, List.getElem_toArray, List.getElem_cons_zero, List.getElem_cons_succ, List.setIfInBounds_toArray, List.set_cons_zero, List.set_cons_succ]
        refine wpAnyH_take (i := 3) (v := .agg cT) rfl (by kernel_rfl) (by kernel_rfl) (by kernel_rfl) (fun _ _ _ h => h) (yields_st (by rfl) (.tmp 6) rfl g6 rfl cT hcT (fun W hW => hW.2.a)) hHeld ?_
        simp only [Act.put, List.getElem_toArray, List.getElem_cons_zero, List.getElem_cons_succ, List.setIfInBounds_toArray, List.set_cons_zero, List.set_cons_succ]
        refine wpAnyH_take (i := 4) (v := .agg cs) rfl (by kernel_rfl) (by kernel_rfl) (by kernel_rfl) (fun _ _ _ h => h) (yields_st (by rfl) (.tmp 2) rfl gs rfl cs hcs (fun W hW => hW.1.a)) hHeld ?_
        simp only [Act.put, List.getElem_toArray, List.getElem_cons_zero, List.getElem_cons_succ, List.setIfInBounds_toArray, List.set_cons_zero, List.set_cons_succ]
        refine wpAnyH_take (i := 5) (v := ?_) rfl (by kernel_rfl) (by kernel_rfl) (by kernel_rfl) (fun _ _ _ h => h) (Or.inl ⟨by rfl, ?_⟩) hHeld ?_
        rotate_left
        · (intro w hSw; go_simp; (try with_reducible rfl))
        simp only [Act.put, List.getElem_toArray, List.getElem_cons_zero, List.getElem_cons_succ, List.setIfInBounds_toArray, List.set_cons_zero, List.set_cons_succ]
        refine wpAnyH_ready (rs := [6]) (by kernel_rfl) (by simp) ?_
        refine AllReadyH.cons rfl (fun K hK => ?_) AllReadyH.nil
        simp only [List.getElem_toArray, List.getElem_cons_zero, List.getElem_cons_succ]
        go_simp
        refine (HSr.out _ hHeld.1).mono ?_
        rintro en wA ⟨cA, OA, LA, rfl, hRA, hbA⟩
        go_wp2_with fail
        have hHeld := And.intro (hHeld.1.keep hbA) (hHeld.2.keep hbA)
        have HRA := Lib.hid hRA
        refine hK.out _ _ hHeld (fun _ => ?_)
        clear hK K
        try simp only [Act.put, List.setIfInBounds_toArray, List.set_cons_zero, List.set_cons_succ]
        clear hRA
        refine wpAnyH_ready (rs := [7]) (by kernel_rfl) (by simp) ?_
        refine AllReadyH.cons rfl (fun K hK => ?_) AllReadyH.nil
        simp only [List.getElem_toArray, List.getElem_cons_zero, List.getElem_cons_succ]
        go_simp
        have hst := states_any t t OT OA LT LA cT cA wA hHeld.2.r HRA.out HTl.out.1 HTl.out.1 HTl.out.2 HTl.out.2
        rw [sameS_refl] at hst
        refine hst.mono ?_
        clear hst
        rintro en wB ⟨rfl, hbB⟩
        go_wp2_with fail
        have hHeld := And.intro (hHeld.1.keep hbB) (hHeld.2.keep hbB)
        refine hK.out _ _ hHeld (fun _ => ?_)
        clear hK K
        try simp only [Act.put, List.setIfInBounds_toArray, List.set_cons_zero, List.set_cons_succ]
        refine wpAnyH_take (i := 8) (v := ?_) rfl (by kernel_rfl) (by kernel_rfl) (by kernel_rfl) (fun _ _ _ h => h) (Or.inl ⟨by rfl, ?_⟩) hHeld ?_
        rotate_left
        · (intro w hSw; go_simp; (try with_reducible rfl))
        simp only [Act.put, List.getElem_toArray, List.getElem_cons_zero, List.getElem_cons_succ, List.setIfInBounds_toArray, List.set_cons_zero, List.set_cons_succ]
        refine wpAnyH_take (i := 9) (v := ?_) rfl (by kernel_rfl) (by kernel_rfl) (by kernel_rfl) (fun _ _ _ h => h) (Or.inl ⟨by rfl, ?_⟩) hHeld ?_
        rotate_left
        · (intro w hSw; go_simp; (try with_reducible rfl))
        simp only [Act.put, List.getElem_toArray, List.getElem_cons_zero, List.getElem_cons_succ, List.setIfInBounds_toArray, List.set_cons_zero, List.set_cons_succ]
        refine wpAnyH_done (by kernel_rfl) ?_ _
        have HF := Lib.hid hHeld.1.b
        clear hHeld
        go_wp2_with fail
        go_ret
        exact ⟨rfl, HF.out⟩
    · have hE1 : e = 1 := by rw [HE.out, hE, if_neg hpp]
      have HTe := Lib.hid (show t = sT0 from by rw [HT.out]; exact seesT_bad (by rw [← HE.out, hE1]; simp))
      subst hE1
      subst hb0
      have d0 : (p != 0) = true := by simp; omega
      have d1 : (p != 1) = true := by simp; omega
      have hpp' : p ≠ 0 ∧ p ≠ 1 := by omega
      clear hE HE HT HBad HNl hpp hpp'
      have his := is_by 1 1 w9
      go_wp2_with fail
      refine his.mono ?_
      rintro en w10 ⟨rfl, rfl⟩
      clear his
      have hst := states_any t sT0 OT nilS LT (fun _ => nilS) cT st0 w9 HT9.out.r (reads_0 _ _) (by rw [HTe.out]; simp [sT0]) (by simp [sT0]) (by rw [HTe.out]; simp [sT0]) (by simp [sT0])
      rw [HTe.out, sameS_refl] at hst
      have hst' := hst
      have hta := HT9.out.a
      go_wp2_with (first
        | (refine load_wantS (by rfl) (.tmp 6) rfl g6 rfl cT hta hcT ?_)
        | (refine wpList_buildS0 (by rfl) rfl ?_))
      refine hst.mono ?_
      rintro en w11 ⟨rfl, hb11⟩
      have HF := Lib.hid (keepB hb11 HW9.out.b)
      clear hst hst' hta hb11
      go_wp2_with fail
      go_ret
      exact ⟨rfl, HF.out⟩
  · have hE1 : e = bad := by rw [HE.out]; unfold seesE; rw [← HBad.out, if_pos hb0]
    have HTe := Lib.hid (show t = sT0 from by rw [HT.out]; exact seesT_bad (by rw [← HE.out, hE1]; exact hb0))
    have d0 : (bad != 0) = true := by simp [hb0]
    subst hE1
    clear HE HT HBad HNl hb0
    go_wp2_with fail
    refine (num_by e w9).mono ?_
    rintro en w10 ⟨rfl, rfl⟩
    have hee : (e == e) = true := beq_self_eq_true _
    have hst := states_any t sT0 OT nilS LT (fun _ => nilS) cT st0 w9 HT9.out.r (reads_0 _ _) (by rw [HTe.out]; simp [sT0]) (by simp [sT0]) (by rw [HTe.out]; simp [sT0]) (by simp [sT0])
    rw [HTe.out, sameS_refl] at hst
    have hst' := hst
    have hta := HT9.out.a
    go_wp2_with (first
      | (refine load_wantS (by rfl) (.tmp 6) rfl g6 rfl cT hta hcT ?_)
      | (refine wpList_buildS0 (by rfl) rfl ?_))
    refine hst.mono ?_
    rintro en w11 ⟨rfl, hb11⟩
    have HF := Lib.hid (keepB hb11 HW9.out.b)
    clear hst hst' hta hb11
    go_wp2_with fail
    go_ret
    exact ⟨rfl, HF.out⟩
end Go.Proofs.YtmhabodijmnldaaDoor
