/- Layer 12: the code's makeObject. Layer 12: the code's setObject. Layer 12: the code's unmakeObject. Layer 12: the code's moveObject. Layer 12: the code's Do. Layer 12: the code's Apply. -/
import Derived.Test.YthedopnhhanknaaEvG3
import Derived.Test.YthedopnhhanknaaStTop
import Derived.Test.YthedopnhhanknaaEvG2
import Derived.Test.YthedopnhhanknaaEvCpC
namespace Go.Proofs.Ythedopnhhanknaa
open Go.RowKit Ex
set_option maxRecDepth 100000
section
variable {P : Program} {ops : Array Oper} {Q : Exit → Act → World → Prop}
theorem anyH_restay {md : Region.Mode} {g : Nat} {b : World} {fuel : Nat} {listed : Array Bool} {a : Act} {w : World} (hb : Stay g b w)
    (h : Stay g w w → wpAnyH P md ops Q (fun W => Stay g w W) fuel listed a w) : wpAnyH P md ops Q (fun W => Stay g b W) fuel listed a w :=
  anyH_mono (fun _ hW => hb.trans hW) _ _ _ _ (h (Stay.refl g w))
theorem Stay.drew {g : Nat} {w w' : World} (h : Stay g w w') : Stay g w w'.drew := ⟨h.os, h.tape, h.output, h.size, h.block⟩
theorem region_stay (g : Nat) {id : Nat} {a : Act} {w : World} (hm : P.follows .mixedOrders = true)
    (h : Stay g w w.drew → wpAnyH P .any ops Q (fun W => Stay g w W) ops.size (Array.replicate ops.size false) a w.drew) : (Code.region id ops true).wp P Q a w :=
  wp_region_held hm (h (Stay.refl g w).drew)
end
theorem Stay.ev {g ge : Nat} {w w' : World} (h : Stay g w w') (hne : ge ≠ g) {e : EvT} (he : EvB w ge e) : EvB w' ge e := (h.block ge he.lt hne).trans he
theorem yields_ev {ops : Array Oper} {S : World → Prop} {o : Oper} {a : Act} (hg : Region.wanted o (yielded ops a.tmps) = true) (x : Operand) (ho : o.op = .load 31 x) (g : Nat) (hx : a.eval x = .pointer (some ⟨g, 0, none⟩)) (cs : Array Value)
    (hS : ∀ w, S w → w.heap[g]? = some (.cells cs 31 (0, 0))) (hi : (Try.prog.info? 31).map (·.size) = some cs.size) : YieldsIf Try.prog ops S o (.agg cs) a :=
  Or.inl ⟨hg, fun w hw => by
    unfold execOp
    simp only [ho, hx, Instr.loadAt, Instr.sureAddr, Sem.run_bind, Sem.run_pure, Result.andThen_ok, run_loadVar_row w g 31 31 cs (0, 0) _ (hS w hw) Try.underlying31 rfl hi]⟩
theorem wp_buildSliceOf {o : Oper} {a : Act} {w : World} {K : Act → World → Prop} {Q : Exit → Act → World → Prop} (x : Operand) (ho : o.op = .buildSlice 22 1 #[(0, x)]) (f : Nat → Int)
    (hx : a.eval x = .agg (arr .i64 18 f)) (hK : K (a.put o.dst (.slice (some ⟨w.heap.size, 0, none⟩) 1 1)) (w.alloc (.cells (arr .i64 18 f) 61))) : Oper.wp Try.prog o a w K Q := by
  unfold Oper.wp
  simp [execOp, ho, hx, buildSlice_of, Result.andThen]
  exact hK
theorem rdO_one {W : World} {b : Nat} {o : Nat → Int} (h : ObAt W b o) : RdO W.heap.size W (some ⟨b, 0, none⟩) [o] := fun i f hi => by
  match i, hi with
  | 0, hi =>
    simp at hi
    subst hi
    exact ⟨b, 0, rfl, (Array.getElem?_eq_some_iff.1 h).1, fun j v hv => by
      show W.cell? ⟨b, 0 + 0 * 18 + j, none⟩ = _
      rw [show 0 + 0 * 18 + j = j by omega, cell_of_row W b j _ _ _ h, ← Array.getElem?_toList]; exact hv⟩
  | k + 1, hi => simp at hi
/-- The state whose objects were laid anew. -/
structure MidO (w : World) (g : Nat) (s : StT) (O : SlT) (L : Nat → SlT) (os : List (Nat → Int)) (W : World) : Prop where
  a : StAt W g (stC O L s.pl s.gm)
  o : OwnO W w.heap.size O.A O.n O.c os
  s : Stay g w W
theorem make_mid {w W : World} {g : Nat} {s : StT} {O : SlT} {L : Nat → SlT} {A : Option Addr} {n c : Nat} {os : List (Nat → Int)} (ha : StAt W g (stC O L s.pl s.gm)) (hs : Stay g w W) (hg : g < w.heap.size) (ho : OwnO W w.heap.size A n c os) :
    MidO w g s ⟨A, n, c⟩ L os (W.setCell ⟨g, 0, none⟩ (.slice A n c)) := by
  refine ⟨?_, ⟨ho.len, owns_keep ho.o fun k hk => heap_setCell_other W ⟨g, 0, none⟩ k _ (by have := (ho.o.lt k hk).1; simp; omega)⟩, hs.set_ 0 _⟩
  unfold StAt
  rw [heap_setCell_same W g 0 _ _ _ ha, show Value.slice A n c = (⟨A, n, c⟩ : SlT).v from rfl, stC_set_objs]
theorem made_n64 {e : EvT} (h : EvI e) : ∀ i < 18, N64 (madeO e.a e.b e.c i) := fun i _ => by
  have h0 : N64 0 := ⟨by decide, by decide⟩
  have h3 : N64 3 := ⟨by decide, by decide⟩
  have h10 : N64 10 := ⟨by decide, by decide⟩
  unfold madeO
  repeat' split
  · exact h.a
  · exact h.b
  · exact h10
  · exact h.c
  · exact h3
  · exact h0
theorem made_end {w W : World} {g : Nat} {s : StT} {O O' : SlT} {L : Nat → SlT} {os : List (Nat → Int)} {cs : Array Value} (hx : ReadsX g w cs s O L) (hm : MidO w g s O' L os W) (hg : g < w.heap.size) (hw : ∀ o ∈ os, ∀ i < 18, N64 (o i))
    {W9 : World} (hb : Below W.heap.size W W9) {x : SlT} {l : List Int} (hl : SlR W9 w.heap.size x l) (hn : ∀ n ∈ l, N64 n) {r : StT × Int} (hr : r = (⟨os, updL s.lists 10 l, s.pl, s.gm⟩, 0)) :
    DP w g s r (.returned .nilIface) (W9.setCell ⟨g, 11, none⟩ x.v) := by
  subst hr
  have ha9 := hm.a.keep hb
  have hs9 : Stay g w W9 := hm.s.then hb
  have ho9 := hm.o.below hb
  have hx9 := (((hx.stay hs9).objs ho9.slO hg hw).list (z := 10) hl hg hn).stay ((Stay.refl g W9).set_ 11 x.v)
  refine DP.yes (O := O') (L := updS L 10 x) ?_ hx9 (hs9.set_ 11 _)
  unfold StAt
  rw [heap_setCell_same W9 g 11 _ _ _ ha9, show (11 : Nat) = 1 + 10 from rfl, stC_set_list _ _ _ _ _ (by omega)]
set_option linter.unusedSimpArgs false in
set_option maxHeartbeats 0 in
theorem make_code (s : StT) (O : SlT) (L : Nat → SlT) (g : Nat) (e : EvT) (w : World) (ha : StAt w g (stC O L s.pl s.gm)) (hx : ReadsX g w (stC O L s.pl s.gm) s O L) (hn : s.objs.length ≤ 1000) (hll : ∀ z < 11, (s.lists z).length ≤ 1000) (hi : EvI e) :
    Calls Try.prog 32 #[.pointer (some ⟨g, 0, none⟩), evV e] w (DP w g s (ap0 s e)) := by
  have hgl := ha.lt
  obtain ⟨A, n, c⟩ := O
  have c0 : w.cell? ⟨g, 0, none⟩ = some (.slice A n c) := (ha.cell 0).trans (stC_objs _ _ _ _)
  have hOn : n = s.objs.length := hx.now.on
  have HX := Lib.hid hx
  have HA := Lib.hid ha
  have HI := Lib.hid hi
  have HLL := Lib.hid hll
  clear ha hx hi hll
  go_enter Try.func32, Try.ntmps32
  go_upto_region 1 with fail
  obtain ⟨w1, hw1⟩ : ∃ w1, w1 = w.alloc (.cells (evC e) 31) := ⟨_, rfl⟩
  have hrow : EvB w1 w.heap.size e := by rw [hw1]; exact heap_alloc_new _ _
  have hb1 : Below w.heap.size w w1 := by rw [hw1]; exact (Below.refl _ _).alloc (Nat.le_refl _) _
  show Code.wp _ _ _ _ (w.alloc (.cells (evC e) 31))
  rw [← hw1]
  clear hw1
  have hg1 := hrow.lt
  obtain ⟨ge, hge⟩ : ∃ g, g = w.heap.size := ⟨_, rfl⟩
  rw [← hge] at hrow hg1 ⊢
  have hne : ge ≠ g := by omega
  have HGE := Lib.hid hge
  have k0 := (hb1.cell (p := ⟨g, 0, none⟩) (by simpa using hgl)).trans c0
  clear c0 hge
  by_cases hfull : 400 ≤ s.objs.length
  · have hr : ap0 s e = (sT0, 5) := if_pos hfull
    have HR := Lib.hid hr
    have hd : decide (400 ≤ (n : Int)) = true := decide_eq_true (by omega)
    clear hr hOn
    go_wp2_with fail
    go_ret
    rw [HR.out]
    exact DP.no (r := (sT0, 5)) (by decide) HA.out HX.out hb1
  have hr : ap0 s e = (⟨s.objs ++ [madeO e.a e.b e.c], updL s.lists 10 (s.lists 10 ++ [(s.objs.length : Int)]), s.pl, s.gm⟩, 0) := if_neg hfull
  have HR := Lib.hid (show ap0 s e = (⟨s.objs ++ [madeO e.a e.b e.c], updL s.lists 10 (s.lists 10 ++ [(n : Int)]), s.pl, s.gm⟩, 0) by rw [hOn]; exact hr)
  have HF := Lib.hid hfull
  have hd : decide (400 ≤ (n : Int)) = false := decide_eq_false (by omega)
  have HN := Lib.hid hOn
  have HF2 := Lib.hid (show n < 400 by omega)
  clear hr hOn hfull
  go_upto_region 4 with fail
  clear hd k0
  obtain ⟨es, hes⟩ : ∃ es, es = evC e := ⟨_, rfl⟩
  have HES := Lib.hid hes
  clear hes
  have ha1 := HA.out.keep hb1
  have k4 : ∀ W, Stay g w1 W → StAt W g (stC ⟨A, n, c⟩ L s.pl s.gm) → W.cell? ⟨g, 0, none⟩ = some (.slice A n c) := fun W _ h => (h.cell 0).trans (stC_objs _ _ _ _)
  refine region_stay g (by kernel_rfl) (fun hHeld => ?_)
  refine wpAnyH_take (i := 0) (v := ?_) rfl (by kernel_rfl) (by kernel_rfl) (by kernel_rfl) (fun _ _ _ h => h) (Or.inl ⟨by rfl, ?_⟩) hHeld ?_
  rotate_left
  · (intro w hSw; go_simp; (try with_reducible rfl))
  simp only [Act.put, List.getElem_toArray, List.getElem_cons_zero, List.getElem_cons_succ, List.setIfInBounds_toArray, List.set_cons_zero, List.set_cons_succ]
  refine wpAnyH_take (i := 1) (v := ?_) rfl (by kernel_rfl) (by kernel_rfl) (by kernel_rfl) (fun _ _ _ h => h) (Or.inl ⟨by rfl, ?_⟩) hHeld ?_
  rotate_left
  · (intro w hSw; go_simp; (try with_reducible rfl))
  simp only [Act.put, List.getElem_toArray, List.getElem_cons_zero, List.getElem_cons_succ, List.setIfInBounds_toArray, List.set_cons_zero, List.set_cons_succ]
  refine wpAnyH_take (i := 2) (v := ?_) rfl (by kernel_rfl) (by kernel_rfl) (by kernel_rfl) (fun _ _ _ h => h) (Or.inl ⟨by rfl, ?_⟩) hHeld ?_
  rotate_left
  · (intro w hSw; go_simp; (try with_reducible rfl))
  simp only [Act.put, List.getElem_toArray, List.getElem_cons_zero, List.getElem_cons_succ, List.setIfInBounds_toArray, List.set_cons_zero, List.set_cons_succ]
  refine wpAnyH_take (i := 3) (v := ?_) rfl (by kernel_rfl) (by kernel_rfl) (by kernel_rfl) (fun _ _ _ h => h) (Or.inl ⟨by rfl, ?_⟩) hHeld ?_
  rotate_left
  · (intro w hSw; go_simp; (try with_reducible rfl))
  simp only [Act.put, List.getElem_toArray, List.getElem_cons_zero, List.getElem_cons_succ, List.setIfInBounds_toArray, List.set_cons_zero, List.set_cons_succ]
  refine wpAnyH_take (i := 5) (v := .agg es) rfl (by kernel_rfl) (by kernel_rfl) (by kernel_rfl) (fun _ _ _ h => h) (yields_ev (by rfl) (.tmp 3) rfl ge rfl es (fun W hW => by rw [HES.out]; exact hW.ev hne hrow) (by rw [HES.out]; exact ev_size e)) hHeld ?_
  simp only [Act.put, List.getElem_toArray, List.getElem_cons_zero, List.getElem_cons_succ, List.setIfInBounds_toArray, List.set_cons_zero, List.set_cons_succ]
  have ha0 : StAt w1.drew g (stC ⟨A, n, c⟩ L s.pl s.gm) := ha1
  have hb0 : Below w.heap.size w w1.drew := hb1.drew
  have hrow0 : EvB w1.drew ge e := hrow
  have k0 : w1.drew.cell? ⟨g, 0, none⟩ = some (.slice A n c) := (ha0.cell 0).trans (stC_objs _ _ _ _)
  have hmd := fun W => made_code e W
  obtain ⟨o, ho⟩ : ∃ o, o = madeO e.a e.b e.c := ⟨_, rfl⟩
  have HR := Lib.hid (show ap0 s e = (⟨s.objs ++ [o], updL s.lists 10 (s.lists 10 ++ [(n : Int)]), s.pl, s.gm⟩, 0) by rw [ho]; exact HR.out)
  rw [← ho, show evV e = .agg es by rw [HES.out]; rfl] at hmd
  have HO := Lib.hid ho
  have hbo := fun W => buildSlice_of o W
  clear k4 ho ha1
  generalize w1.drew = W0 at hHeld ha0 hb0 hrow0 k0 ⊢
  refine anyH_restay hHeld (fun hHeld => ?_)
  refine wpAnyH_ready (rs := [4, 6]) (by kernel_rfl) (by simp) ?_
  refine AllReadyH.cons rfl (fun K hK => ?_) (AllReadyH.cons rfl (fun K hK => ?_) AllReadyH.nil)
  all_goals simp only [List.getElem_toArray, List.getElem_cons_zero, List.getElem_cons_succ]
  all_goals go_simp
  · skip
    refine hK.out _ _ (Stay.refl _ _) (fun _ => ?_)
    clear hK K
    try simp only [Act.put, List.setIfInBounds_toArray, List.set_cons_zero, List.set_cons_succ]
    refine wpAnyH_ready (rs := [6]) (by kernel_rfl) (by simp) ?_
    refine AllReadyH.cons rfl (fun K hK => ?_) AllReadyH.nil
    simp only [List.getElem_toArray, List.getElem_cons_zero, List.getElem_cons_succ]
    go_simp
    refine (hmd _).mono ?_
    rintro en W1 ⟨rfl, hb6⟩
    go_wp2_with fail
    have hB6 := hHeld.then hb6
    refine hK.out _ _ hB6 (fun _ => ?_)
    clear hK K
    try simp only [Act.put, List.setIfInBounds_toArray, List.set_cons_zero, List.set_cons_succ]
    refine anyH_restay hB6 (fun hHeld => ?_)
    have ha6 := ha0.keep hb6
    have k6 : W1.cell? ⟨g, 0, none⟩ = some (.slice A n c) := (ha6.cell 0).trans (stC_objs _ _ _ _)
    have hw6 := keepB hb6 hb0
    clear ha0 k0 hb0
    refine wpAnyH_ready (rs := [7]) (by kernel_rfl) (by simp) ?_
    refine AllReadyH.cons rfl (fun K hK => ?_) AllReadyH.nil
    simp only [List.getElem_toArray, List.getElem_cons_zero, List.getElem_cons_succ]
    rw [if_pos (by rfl)]
    refine wp_buildSliceOf (.tmp 20) rfl o rfl ?_
    obtain ⟨W2, hW2⟩ : ∃ W2, W2 = W1.alloc (.cells (arr .i64 18 o) 61) := ⟨_, rfl⟩
    have hb7 : Below W1.heap.size W1 W2 := by rw [hW2]; exact (Below.refl _ _).alloc (Nat.le_refl _) _
    have hob : ObAt W2 W1.heap.size o := by rw [hW2]; exact heap_alloc_new _ _
    rw [← hW2]
    have ha7 := ha6.keep hb7
    have hw7 := keepB hb7 hw6
    have k7 : W2.cell? ⟨g, 0, none⟩ = some (.slice A n c) := (ha7.cell 0).trans (stC_objs _ _ _ _)
    clear hW2
    refine hK.out _ _ (Stay.of hb7) (fun _ => ?_)
    clear hK K
    try simp only [Act.put, List.setIfInBounds_toArray, List.set_cons_zero, List.set_cons_succ]
    refine anyH_restay (Stay.of hb7) (fun hHeld => ?_)
    refine wpAnyH_ready (rs := [8]) (by kernel_rfl) (by simp) ?_
    refine AllReadyH.cons rfl (fun K hK => ?_) AllReadyH.nil
    simp only [List.getElem_toArray, List.getElem_cons_zero, List.getElem_cons_succ]
    go_simp
    have hr1 : RdO W2.heap.size W2 A s.objs := (HX.out W2 (Stay.of hw7)).o
    have hP := parts2O (W := W2) (p1 := ⟨A, n, c, s.objs⟩) (p2 := ⟨some ⟨W1.heap.size, 0, none⟩, 1, 1, [o]⟩) hr1 (rdO_one hob) HN.out rfl 22
    have hb8 : Below W2.heap.size W2 (W2.alloc (.cells #[.slice A n c, .slice (some ⟨W1.heap.size, 0, none⟩) 1 1] 22)) := (Below.refl _ _).alloc (Nat.le_refl _) _
    simp only at hP
    obtain ⟨g8, hg8⟩ : ∃ g8, g8 = W2.heap.size := ⟨_, rfl⟩
    rw [← hg8] at hP ⊢
    obtain ⟨W3, hW3⟩ : ∃ W3, W3 = W2.alloc (.cells #[.slice A n c, .slice (some ⟨W1.heap.size, 0, none⟩) 1 1] 22) := ⟨_, rfl⟩
    rw [← hW3] at hP hb8 ⊢
    clear hW3 hr1 hg8
    have ha8 := ha7.keep hb8
    have hw8 := keepB hb8 hw7
    refine hK.out _ _ (Stay.of hb8) (fun _ => ?_)
    clear hK K
    try simp only [Act.put, List.setIfInBounds_toArray, List.set_cons_zero, List.set_cons_succ]
    refine anyH_restay (Stay.of hb8) (fun hHeld => ?_)
    have hcat : catO [⟨A, n, c, s.objs⟩, ⟨some ⟨W1.heap.size, 0, none⟩, 1, 1, [o]⟩] = s.objs ++ [o] := by simp [catO]
    have hcc := concatO_any g8 2 2 _ W3 hP rfl (by omega) (by rw [hcat]; simp; have := HF.out; omega)
    rw [hcat] at hcc
    clear hcat hP
    refine wpAnyH_ready (rs := [9]) (by kernel_rfl) (by simp) ?_
    refine AllReadyH.cons rfl (fun K hK => ?_) AllReadyH.nil
    simp only [List.getElem_toArray, List.getElem_cons_zero, List.getElem_cons_succ]
    go_simp
    refine hcc.mono ?_
    rintro en W4 ⟨A4, n4, c4, rfl, ho4, hb9⟩
    clear hcc
    go_wp2_with fail
    have hB9 := hHeld.then hb9
    refine hK.out _ _ hB9 (fun _ => ?_)
    clear hK K
    try simp only [Act.put, List.setIfInBounds_toArray, List.set_cons_zero, List.set_cons_succ]
    refine anyH_restay hB9 (fun hHeld => ?_)
    have ha9 := ha8.keep hb9
    have hw9 := keepB hb9 hw8
    have k9 : W4.cell? ⟨g, 0, none⟩ = some (.slice A n c) := (ha9.cell 0).trans (stC_objs _ _ _ _)
    have f9 := frozen_of_row W4 g 0 _ _ ha9
    have ho9 := ho4.low hw8.size
    clear k7 ha7 hw7 hb8 ha8 ho4 hb7 hob
    refine wpAnyH_take (i := 10) (v := ?_) rfl (by kernel_rfl) (by kernel_rfl) (by kernel_rfl) (fun _ _ _ h => h) (Or.inl ⟨by rfl, ?_⟩) hHeld ?_
    rotate_left
    · (intro w hSw; go_simp; (try with_reducible rfl))
    simp only [Act.put, List.getElem_toArray, List.getElem_cons_zero, List.getElem_cons_succ, List.setIfInBounds_toArray, List.set_cons_zero, List.set_cons_succ]
    refine wpAnyH_take (i := 11) (v := ?_) rfl (by kernel_rfl) (by kernel_rfl) (by kernel_rfl) (fun _ _ _ h => h) (Or.inl ⟨by rfl, ?_⟩) hHeld ?_
    rotate_left
    · (intro w hSw; go_simp; (try with_reducible rfl))
    simp only [Act.put, List.getElem_toArray, List.getElem_cons_zero, List.getElem_cons_succ, List.setIfInBounds_toArray, List.set_cons_zero, List.set_cons_succ]
    refine wpAnyH_ready (rs := [12]) (by kernel_rfl) (by simp) ?_
    refine AllReadyH.cons rfl (fun K hK => ?_) AllReadyH.nil
    simp only [List.getElem_toArray, List.getElem_cons_zero, List.getElem_cons_succ]
    go_simp
    refine hK.out _ _ ((Stay.refl g W4).set_ 0 _) (fun _ => ?_)
    clear hK K
    try simp only [Act.put, List.setIfInBounds_toArray, List.set_cons_zero, List.set_cons_succ]
    refine wpAnyH_done (by kernel_rfl) ?_ _
    have HM := Lib.hid (make_mid ha9 (Stay.of hw9) hgl ho9)
    clear ha9 ho9 k9 f9 hB9 hHeld
    obtain ⟨W5, hW5⟩ : ∃ W5, W5 = W4.setCell ⟨g, 0, none⟩ (.slice A4 n4 c4) := ⟨_, rfl⟩
    rw [← hW5] at HM ⊢
    clear hW5
    go_upto_region 5 with fail
    clear hw9 hb9 hw8 hB6 hb6 hw6 ha6 k6 hb1 hrow hmd hbo
    obtain ⟨A5, n5, c5, hL⟩ : ∃ A5 n5 c5, L 10 = ⟨A5, n5, c5⟩ := ⟨_, _, _, rfl⟩
    have HWO := Lib.hid (show ∀ x ∈ s.objs ++ [o], ∀ i < 18, N64 (x i) from fun x hx => by
      rcases List.mem_append.1 hx with h | h
      · exact HX.out.now.ow x h
      · rw [List.mem_singleton.1 h, HO.out]; exact made_n64 HI.out)
    have HWL := Lib.hid (show ∀ x ∈ s.lists 10 ++ [(n : Int)], N64 x from fun x hx => by
      rcases List.mem_append.1 hx with h | h
      · exact HX.out.now.lw 10 (by omega) x h
      · rw [List.mem_singleton.1 h]; have := HF2.out; exact ⟨by omega, by omega⟩)
    have HN5 := Lib.hid (show Nums .i64 W5 W5.heap.size A5 n5 (s.lists 10) from by
      have h := (HX.out W5 HM.out.s).l 10 (by omega)
      rw [hL] at h
      exact h)
    have k6 : W5.cell? ⟨g, 11, none⟩ = some (.slice A5 n5 c5) := by
      have h := (HM.out.a.cell 11).trans (stC_list _ L _ _ (show 10 < 11 by omega))
      rw [hL] at h
      exact h
    have hg6 : g < W5.heap.size := HM.out.a.lt
    clear hL
    refine region_stay g (by kernel_rfl) (fun hHeld => ?_)
    refine wpAnyH_take (i := 0) (v := ?_) rfl (by kernel_rfl) (by kernel_rfl) (by kernel_rfl) (fun _ _ _ h => h) (Or.inl ⟨by rfl, ?_⟩) hHeld ?_
    rotate_left
    · (intro w hSw; go_simp; (try with_reducible rfl))
    simp only [Act.put, List.getElem_toArray, List.getElem_cons_zero, List.getElem_cons_succ, List.setIfInBounds_toArray, List.set_cons_zero, List.set_cons_succ]
    refine wpAnyH_take (i := 1) (v := ?_) rfl (by kernel_rfl) (by kernel_rfl) (by kernel_rfl) (fun _ _ _ h => h) (Or.inl ⟨by rfl, ?_⟩) hHeld ?_
    rotate_left
    · (intro w hSw; go_simp; (try with_reducible rfl))
    simp only [Act.put, List.getElem_toArray, List.getElem_cons_zero, List.getElem_cons_succ, List.setIfInBounds_toArray, List.set_cons_zero, List.set_cons_succ]
    refine wpAnyH_take (i := 2) (v := ?_) rfl (by kernel_rfl) (by kernel_rfl) (by kernel_rfl) (fun _ _ _ h => h) (Or.inl ⟨by rfl, ?_⟩) hHeld ?_
    rotate_left
    · (intro w hSw; go_simp; (try with_reducible rfl))
    simp only [Act.put, List.getElem_toArray, List.getElem_cons_zero, List.getElem_cons_succ, List.setIfInBounds_toArray, List.set_cons_zero, List.set_cons_succ]
    refine wpAnyH_take (i := 3) (v := ?_) rfl (by kernel_rfl) (by kernel_rfl) (by kernel_rfl) (fun _ _ _ h => h) (Or.inl ⟨by rfl, ?_⟩) hHeld ?_
    rotate_left
    · (intro w hSw; go_simp; (try with_reducible rfl))
    simp only [Act.put, List.getElem_toArray, List.getElem_cons_zero, List.getElem_cons_succ, List.setIfInBounds_toArray, List.set_cons_zero, List.set_cons_succ]
    refine wpAnyH_take (i := 4) (v := ?_) rfl (by kernel_rfl) (by kernel_rfl) (by kernel_rfl) (fun _ _ _ h => h) (Or.inl ⟨by rfl, ?_⟩) hHeld ?_
    rotate_left
    · (intro w hSw; go_simp; (try with_reducible rfl))
    simp only [Act.put, List.getElem_toArray, List.getElem_cons_zero, List.getElem_cons_succ, List.setIfInBounds_toArray, List.set_cons_zero, List.set_cons_succ]
    refine wpAnyH_take (i := 6) (v := ?_) rfl (by kernel_rfl) (by kernel_rfl) (by kernel_rfl) (fun _ _ _ h => h) (Or.inl ⟨by rfl, ?_⟩) hHeld ?_
    rotate_left
    · (intro w hSw; go_simp; (try with_reducible rfl))
    simp only [Act.put, List.getElem_toArray, List.getElem_cons_zero, List.getElem_cons_succ, List.setIfInBounds_toArray, List.set_cons_zero, List.set_cons_succ]
    refine wpAnyH_take (i := 10) (v := ?_) rfl (by kernel_rfl) (by kernel_rfl) (by kernel_rfl) (fun _ _ _ h => h) (Or.inl ⟨by rfl, ?_⟩) hHeld ?_
    rotate_left
    · (intro w hSw; go_simp; (try with_reducible rfl))
    simp only [Act.put, List.getElem_toArray, List.getElem_cons_zero, List.getElem_cons_succ, List.setIfInBounds_toArray, List.set_cons_zero, List.set_cons_succ]
    refine wpAnyH_take (i := 11) (v := ?_) rfl (by kernel_rfl) (by kernel_rfl) (by kernel_rfl) (fun _ _ _ h => h) (Or.inl ⟨by rfl, ?_⟩) hHeld ?_
    rotate_left
    · (intro w hSw; go_simp; (try with_reducible rfl))
    simp only [Act.put, List.getElem_toArray, List.getElem_cons_zero, List.getElem_cons_succ, List.setIfInBounds_toArray, List.set_cons_zero, List.set_cons_succ]
    have k6 : W5.drew.cell? ⟨g, 11, none⟩ = some (.slice A5 n5 c5) := k6
    have hg6 : g < W5.drew.heap.size := hg6
    have hw6 : Below W5.heap.size W5 W5.drew := (Below.refl _ _).drew
    generalize W5.drew = W6 at hHeld k6 hg6 hw6 ⊢
    refine anyH_restay hHeld (fun hHeld => ?_)
    refine wpAnyH_ready (rs := [5, 7]) (by kernel_rfl) (by simp) ?_
    refine AllReadyH.cons rfl (fun K hK => ?_) (AllReadyH.cons rfl (fun K hK => ?_) AllReadyH.nil)
    all_goals simp only [List.getElem_toArray, List.getElem_cons_zero, List.getElem_cons_succ]
    all_goals go_simp
    · skip
      refine hK.out _ _ (Stay.refl _ _) (fun _ => ?_)
      clear hK K
      try simp only [Act.put, List.setIfInBounds_toArray, List.set_cons_zero, List.set_cons_succ]
      refine wpAnyH_ready (rs := [7]) (by kernel_rfl) (by simp) ?_
      refine AllReadyH.cons rfl (fun K hK => ?_) AllReadyH.nil
      simp only [List.getElem_toArray, List.getElem_cons_zero, List.getElem_cons_succ]
      go_simp
      have hone := Nums.one W6 .i64 (n : Int) 3
      obtain ⟨W7, hW7⟩ : ∃ W7, W7 = W6.alloc (.cells #[.int .i64 (n : Int)] 3) := ⟨_, rfl⟩
      have hb7 : Below W6.heap.size W6 W7 := by rw [hW7]; exact below_alloc _
      have hl7 : W6.heap.size + 1 ≤ W7.heap.size := by rw [hW7]; simp
      rw [← hW7] at hone ⊢
      have hone := hone.more hl7
      obtain ⟨g7, hg7⟩ : ∃ g7, g7 = W6.heap.size := ⟨_, rfl⟩
      rw [← hg7] at hone ⊢
      clear hW7 hl7 hg7
      have hw7 := keepB hb7 hw6
      have k7 : W7.cell? ⟨g, 11, none⟩ = some (.slice A5 n5 c5) := (hb7.cell (by simpa using hg6)).trans k6
      clear k6
      refine hK.out _ _ (Stay.of hb7) (fun _ => ?_)
      clear hK K
      try simp only [Act.put, List.setIfInBounds_toArray, List.set_cons_zero, List.set_cons_succ]
      refine anyH_restay (Stay.of hb7) (fun hHeld => ?_)
      refine wpAnyH_ready (rs := [8]) (by kernel_rfl) (by simp) ?_
      refine AllReadyH.cons rfl (fun K hK => ?_) AllReadyH.nil
      simp only [List.getElem_toArray, List.getElem_cons_zero, List.getElem_cons_succ]
      go_simp
      have hP := parts2 (W := W7) (p1 := ⟨A5, n5, c5, s.lists 10⟩) (p2 := ⟨some ⟨g7, 0, none⟩, 1, 1, [(n : Int)]⟩) ((HN5.out.below hw7).more hw7.size) hone 23
      have hb8 : Below W7.heap.size W7 (W7.alloc (.cells #[.slice A5 n5 c5, .slice (some ⟨g7, 0, none⟩) 1 1] 23)) := below_alloc _
      simp only at hP
      obtain ⟨g8, hg8⟩ : ∃ g8, g8 = W7.heap.size := ⟨_, rfl⟩
      rw [← hg8] at hP ⊢
      obtain ⟨W8, hW8⟩ : ∃ W8, W8 = W7.alloc (.cells #[.slice A5 n5 c5, .slice (some ⟨g7, 0, none⟩) 1 1] 23) := ⟨_, rfl⟩
      rw [← hW8] at hP hb8 ⊢
      clear hW8 hg8
      have hw8 := keepB hb8 hw7
      refine hK.out _ _ (Stay.of hb8) (fun _ => ?_)
      clear hK K
      try simp only [Act.put, List.setIfInBounds_toArray, List.set_cons_zero, List.set_cons_succ]
      refine anyH_restay (Stay.of hb8) (fun hHeld => ?_)
      have hcat : catP [⟨A5, n5, c5, s.lists 10⟩, ⟨some ⟨g7, 0, none⟩, 1, 1, [(n : Int)]⟩] = s.lists 10 ++ [(n : Int)] := by simp [catP]
      have hcc := concat_any g8 2 2 _ W8 hP rfl (by omega) (by rw [hcat]; simp; have := HLL.out 10 (by omega); have := HF2.out; omega)
      rw [hcat] at hcc
      clear hcat hP
      refine wpAnyH_ready (rs := [9]) (by kernel_rfl) (by simp) ?_
      refine AllReadyH.cons rfl (fun K hK => ?_) AllReadyH.nil
      simp only [List.getElem_toArray, List.getElem_cons_zero, List.getElem_cons_succ]
      go_simp
      refine hcc.mono ?_
      rintro en W9 ⟨A9, n9, c9, rfl, ho9, hb9⟩
      clear hcc
      go_wp2_with fail
      have hB9 := hHeld.then hb9
      refine hK.out _ _ hB9 (fun _ => ?_)
      clear hK K
      try simp only [Act.put, List.setIfInBounds_toArray, List.set_cons_zero, List.set_cons_succ]
      refine anyH_restay hB9 (fun hHeld => ?_)
      have hw9 := keepB hb9 hw8
      have ha9 := HM.out.a.keep hw9
      have k9 : W9.cell? ⟨g, 11, none⟩ = some (.slice A5 n5 c5) := (keepB hb9 hb8).cell (p := ⟨g, 11, none⟩) (by have := hb7.size; simp only; omega) |>.trans k7
      have f9 := frozen_of_row W9 g 11 _ _ ha9
      have HFin := Lib.hid (made_end HX.out HM.out hgl HWO.out hw9 ((ho9.base_le (show w.heap.size ≤ W8.heap.size from Nat.le_trans HM.out.s.size hw8.size)).slR) HWL.out HR.out)
      clear k7 hw7 hb8 ho9 hb7 hone ha9 hw8 hw9
      refine wpAnyH_take (i := 12) (v := ?_) rfl (by kernel_rfl) (by kernel_rfl) (by kernel_rfl) (fun _ _ _ h => h) (Or.inl ⟨by rfl, ?_⟩) hHeld ?_
      rotate_left
      · (intro w hSw; go_simp; (try with_reducible rfl))
      simp only [Act.put, List.getElem_toArray, List.getElem_cons_zero, List.getElem_cons_succ, List.setIfInBounds_toArray, List.set_cons_zero, List.set_cons_succ]
      refine wpAnyH_ready (rs := [13]) (by kernel_rfl) (by simp) ?_
      refine AllReadyH.cons rfl (fun K hK => ?_) AllReadyH.nil
      simp only [List.getElem_toArray, List.getElem_cons_zero, List.getElem_cons_succ]
      go_simp
      refine hK.out _ _ ((Stay.refl g W9).set_ 11 _) (fun _ => ?_)
      clear hK K
      try simp only [Act.put, List.setIfInBounds_toArray, List.set_cons_zero, List.set_cons_succ]
      refine wpAnyH_done (by kernel_rfl) ?_ _
      clear k9 f9 hB9 hHeld hb9
      go_wp2_with fail
      go_ret
      exact HFin.out
    · skip
      have hone := Nums.one W6 .i64 (n : Int) 3
      obtain ⟨W7, hW7⟩ : ∃ W7, W7 = W6.alloc (.cells #[.int .i64 (n : Int)] 3) := ⟨_, rfl⟩
      have hb7 : Below W6.heap.size W6 W7 := by rw [hW7]; exact below_alloc _
      have hl7 : W6.heap.size + 1 ≤ W7.heap.size := by rw [hW7]; simp
      rw [← hW7] at hone ⊢
      have hone := hone.more hl7
      obtain ⟨g7, hg7⟩ : ∃ g7, g7 = W6.heap.size := ⟨_, rfl⟩
      rw [← hg7] at hone ⊢
      clear hW7 hl7 hg7
      have hw7 := keepB hb7 hw6
      have k7 : W7.cell? ⟨g, 11, none⟩ = some (.slice A5 n5 c5) := (hb7.cell (by simpa using hg6)).trans k6
      clear k6
      refine hK.out _ _ (Stay.of hb7) (fun _ => ?_)
      clear hK K
      try simp only [Act.put, List.setIfInBounds_toArray, List.set_cons_zero, List.set_cons_succ]
      refine anyH_restay (Stay.of hb7) (fun hHeld => ?_)
      refine wpAnyH_ready (rs := [5]) (by kernel_rfl) (by simp) ?_
      refine AllReadyH.cons rfl (fun K hK => ?_) AllReadyH.nil
      simp only [List.getElem_toArray, List.getElem_cons_zero, List.getElem_cons_succ]
      go_simp
      refine hK.out _ _ (Stay.refl _ _) (fun _ => ?_)
      clear hK K
      try simp only [Act.put, List.setIfInBounds_toArray, List.set_cons_zero, List.set_cons_succ]
      refine wpAnyH_ready (rs := [8]) (by kernel_rfl) (by simp) ?_
      refine AllReadyH.cons rfl (fun K hK => ?_) AllReadyH.nil
      simp only [List.getElem_toArray, List.getElem_cons_zero, List.getElem_cons_succ]
      go_simp
      have hP := parts2 (W := W7) (p1 := ⟨A5, n5, c5, s.lists 10⟩) (p2 := ⟨some ⟨g7, 0, none⟩, 1, 1, [(n : Int)]⟩) ((HN5.out.below hw7).more hw7.size) hone 23
      have hb8 : Below W7.heap.size W7 (W7.alloc (.cells #[.slice A5 n5 c5, .slice (some ⟨g7, 0, none⟩) 1 1] 23)) := below_alloc _
      simp only at hP
      obtain ⟨g8, hg8⟩ : ∃ g8, g8 = W7.heap.size := ⟨_, rfl⟩
      rw [← hg8] at hP ⊢
      obtain ⟨W8, hW8⟩ : ∃ W8, W8 = W7.alloc (.cells #[.slice A5 n5 c5, .slice (some ⟨g7, 0, none⟩) 1 1] 23) := ⟨_, rfl⟩
      rw [← hW8] at hP hb8 ⊢
      clear hW8 hg8
      have hw8 := keepB hb8 hw7
      refine hK.out _ _ (Stay.of hb8) (fun _ => ?_)
      clear hK K
      try simp only [Act.put, List.setIfInBounds_toArray, List.set_cons_zero, List.set_cons_succ]
      refine anyH_restay (Stay.of hb8) (fun hHeld => ?_)
      have hcat : catP [⟨A5, n5, c5, s.lists 10⟩, ⟨some ⟨g7, 0, none⟩, 1, 1, [(n : Int)]⟩] = s.lists 10 ++ [(n : Int)] := by simp [catP]
      have hcc := concat_any g8 2 2 _ W8 hP rfl (by omega) (by rw [hcat]; simp; have := HLL.out 10 (by omega); have := HF2.out; omega)
      rw [hcat] at hcc
      clear hcat hP
      refine wpAnyH_ready (rs := [9]) (by kernel_rfl) (by simp) ?_
      refine AllReadyH.cons rfl (fun K hK => ?_) AllReadyH.nil
      simp only [List.getElem_toArray, List.getElem_cons_zero, List.getElem_cons_succ]
      go_simp
      refine hcc.mono ?_
      rintro en W9 ⟨A9, n9, c9, rfl, ho9, hb9⟩
      clear hcc
      go_wp2_with fail
      have hB9 := hHeld.then hb9
      refine hK.out _ _ hB9 (fun _ => ?_)
      clear hK K
      try simp only [Act.put, List.setIfInBounds_toArray, List.set_cons_zero, List.set_cons_succ]
      refine anyH_restay hB9 (fun hHeld => ?_)
      have hw9 := keepB hb9 hw8
      have ha9 := HM.out.a.keep hw9
      have k9 : W9.cell? ⟨g, 11, none⟩ = some (.slice A5 n5 c5) := (keepB hb9 hb8).cell (p := ⟨g, 11, none⟩) (by have := hb7.size; simp only; omega) |>.trans k7
      have f9 := frozen_of_row W9 g 11 _ _ ha9
      have HFin := Lib.hid (made_end HX.out HM.out hgl HWO.out hw9 ((ho9.base_le (show w.heap.size ≤ W8.heap.size from Nat.le_trans HM.out.s.size hw8.size)).slR) HWL.out HR.out)
      clear k7 hw7 hb8 ho9 hb7 hone ha9 hw8 hw9
      refine wpAnyH_take (i := 12) (v := ?_) rfl (by kernel_rfl) (by kernel_rfl) (by kernel_rfl) (fun _ _ _ h => h) (Or.inl ⟨by rfl, ?_⟩) hHeld ?_
      rotate_left
      · (intro w hSw; go_simp; (try with_reducible rfl))
      simp only [Act.put, List.getElem_toArray, List.getElem_cons_zero, List.getElem_cons_succ, List.setIfInBounds_toArray, List.set_cons_zero, List.set_cons_succ]
      refine wpAnyH_ready (rs := [13]) (by kernel_rfl) (by simp) ?_
      refine AllReadyH.cons rfl (fun K hK => ?_) AllReadyH.nil
      simp only [List.getElem_toArray, List.getElem_cons_zero, List.getElem_cons_succ]
      go_simp
      refine hK.out _ _ ((Stay.refl g W9).set_ 11 _) (fun _ => ?_)
      clear hK K
      try simp only [Act.put, List.setIfInBounds_toArray, List.set_cons_zero, List.set_cons_succ]
      refine wpAnyH_done (by kernel_rfl) ?_ _
      clear k9 f9 hB9 hHeld hb9
      go_wp2_with fail
      go_ret
      exact HFin.out
  · skip
    refine (hmd _).mono ?_
    rintro en W1 ⟨rfl, hb6⟩
    go_wp2_with fail
    have hB6 := hHeld.then hb6
    refine hK.out _ _ hB6 (fun _ => ?_)
    clear hK K
    try simp only [Act.put, List.setIfInBounds_toArray, List.set_cons_zero, List.set_cons_succ]
    refine anyH_restay hB6 (fun hHeld => ?_)
    have ha6 := ha0.keep hb6
    have k6 : W1.cell? ⟨g, 0, none⟩ = some (.slice A n c) := (ha6.cell 0).trans (stC_objs _ _ _ _)
    have hw6 := keepB hb6 hb0
    clear ha0 k0 hb0
    refine wpAnyH_ready (rs := [4, 7]) (by kernel_rfl) (by simp) ?_
    refine AllReadyH.cons rfl (fun K hK => ?_) (AllReadyH.cons rfl (fun K hK => ?_) AllReadyH.nil)
    · simp only [List.getElem_toArray, List.getElem_cons_zero, List.getElem_cons_succ]
      go_simp
      refine hK.out _ _ (Stay.refl _ _) (fun _ => ?_)
      clear hK K
      try simp only [Act.put, List.setIfInBounds_toArray, List.set_cons_zero, List.set_cons_succ]
      refine wpAnyH_ready (rs := [7]) (by kernel_rfl) (by simp) ?_
      refine AllReadyH.cons rfl (fun K hK => ?_) AllReadyH.nil
      simp only [List.getElem_toArray, List.getElem_cons_zero, List.getElem_cons_succ]
      rw [if_pos (by rfl)]
      refine wp_buildSliceOf (.tmp 20) rfl o rfl ?_
      obtain ⟨W2, hW2⟩ : ∃ W2, W2 = W1.alloc (.cells (arr .i64 18 o) 61) := ⟨_, rfl⟩
      have hb7 : Below W1.heap.size W1 W2 := by rw [hW2]; exact (Below.refl _ _).alloc (Nat.le_refl _) _
      have hob : ObAt W2 W1.heap.size o := by rw [hW2]; exact heap_alloc_new _ _
      rw [← hW2]
      have ha7 := ha6.keep hb7
      have hw7 := keepB hb7 hw6
      have k7 : W2.cell? ⟨g, 0, none⟩ = some (.slice A n c) := (ha7.cell 0).trans (stC_objs _ _ _ _)
      clear hW2
      refine hK.out _ _ (Stay.of hb7) (fun _ => ?_)
      clear hK K
      try simp only [Act.put, List.setIfInBounds_toArray, List.set_cons_zero, List.set_cons_succ]
      refine anyH_restay (Stay.of hb7) (fun hHeld => ?_)
      refine wpAnyH_ready (rs := [8]) (by kernel_rfl) (by simp) ?_
      refine AllReadyH.cons rfl (fun K hK => ?_) AllReadyH.nil
      simp only [List.getElem_toArray, List.getElem_cons_zero, List.getElem_cons_succ]
      go_simp
      have hr1 : RdO W2.heap.size W2 A s.objs := (HX.out W2 (Stay.of hw7)).o
      have hP := parts2O (W := W2) (p1 := ⟨A, n, c, s.objs⟩) (p2 := ⟨some ⟨W1.heap.size, 0, none⟩, 1, 1, [o]⟩) hr1 (rdO_one hob) HN.out rfl 22
      have hb8 : Below W2.heap.size W2 (W2.alloc (.cells #[.slice A n c, .slice (some ⟨W1.heap.size, 0, none⟩) 1 1] 22)) := (Below.refl _ _).alloc (Nat.le_refl _) _
      simp only at hP
      obtain ⟨g8, hg8⟩ : ∃ g8, g8 = W2.heap.size := ⟨_, rfl⟩
      rw [← hg8] at hP ⊢
      obtain ⟨W3, hW3⟩ : ∃ W3, W3 = W2.alloc (.cells #[.slice A n c, .slice (some ⟨W1.heap.size, 0, none⟩) 1 1] 22) := ⟨_, rfl⟩
      rw [← hW3] at hP hb8 ⊢
      clear hW3 hr1 hg8
      have ha8 := ha7.keep hb8
      have hw8 := keepB hb8 hw7
      refine hK.out _ _ (Stay.of hb8) (fun _ => ?_)
      clear hK K
      try simp only [Act.put, List.setIfInBounds_toArray, List.set_cons_zero, List.set_cons_succ]
      refine anyH_restay (Stay.of hb8) (fun hHeld => ?_)
      have hcat : catO [⟨A, n, c, s.objs⟩, ⟨some ⟨W1.heap.size, 0, none⟩, 1, 1, [o]⟩] = s.objs ++ [o] := by simp [catO]
      have hcc := concatO_any g8 2 2 _ W3 hP rfl (by omega) (by rw [hcat]; simp; have := HF.out; omega)
      rw [hcat] at hcc
      clear hcat hP
      refine wpAnyH_ready (rs := [9]) (by kernel_rfl) (by simp) ?_
      refine AllReadyH.cons rfl (fun K hK => ?_) AllReadyH.nil
      simp only [List.getElem_toArray, List.getElem_cons_zero, List.getElem_cons_succ]
      go_simp
      refine hcc.mono ?_
      rintro en W4 ⟨A4, n4, c4, rfl, ho4, hb9⟩
      clear hcc
      go_wp2_with fail
      have hB9 := hHeld.then hb9
      refine hK.out _ _ hB9 (fun _ => ?_)
      clear hK K
      try simp only [Act.put, List.setIfInBounds_toArray, List.set_cons_zero, List.set_cons_succ]
      refine anyH_restay hB9 (fun hHeld => ?_)
      have ha9 := ha8.keep hb9
      have hw9 := keepB hb9 hw8
      have k9 : W4.cell? ⟨g, 0, none⟩ = some (.slice A n c) := (ha9.cell 0).trans (stC_objs _ _ _ _)
      have f9 := frozen_of_row W4 g 0 _ _ ha9
      have ho9 := ho4.low hw8.size
      clear k7 ha7 hw7 hb8 ha8 ho4 hb7 hob
      refine wpAnyH_take (i := 10) (v := ?_) rfl (by kernel_rfl) (by kernel_rfl) (by kernel_rfl) (fun _ _ _ h => h) (Or.inl ⟨by rfl, ?_⟩) hHeld ?_
      rotate_left
      · (intro w hSw; go_simp; (try with_reducible rfl))
      simp only [Act.put, List.getElem_toArray, List.getElem_cons_zero, List.getElem_cons_succ, List.setIfInBounds_toArray, List.set_cons_zero, List.set_cons_succ]
      refine wpAnyH_take (i := 11) (v := ?_) rfl (by kernel_rfl) (by kernel_rfl) (by kernel_rfl) (fun _ _ _ h => h) (Or.inl ⟨by rfl, ?_⟩) hHeld ?_
      rotate_left
      · (intro w hSw; go_simp; (try with_reducible rfl))
      simp only [Act.put, List.getElem_toArray, List.getElem_cons_zero, List.getElem_cons_succ, List.setIfInBounds_toArray, List.set_cons_zero, List.set_cons_succ]
      refine wpAnyH_ready (rs := [12]) (by kernel_rfl) (by simp) ?_
      refine AllReadyH.cons rfl (fun K hK => ?_) AllReadyH.nil
      simp only [List.getElem_toArray, List.getElem_cons_zero, List.getElem_cons_succ]
      go_simp
      refine hK.out _ _ ((Stay.refl g W4).set_ 0 _) (fun _ => ?_)
      clear hK K
      try simp only [Act.put, List.setIfInBounds_toArray, List.set_cons_zero, List.set_cons_succ]
      refine wpAnyH_done (by kernel_rfl) ?_ _
      have HM := Lib.hid (make_mid ha9 (Stay.of hw9) hgl ho9)
      clear ha9 ho9 k9 f9 hB9 hHeld
      obtain ⟨W5, hW5⟩ : ∃ W5, W5 = W4.setCell ⟨g, 0, none⟩ (.slice A4 n4 c4) := ⟨_, rfl⟩
      rw [← hW5] at HM ⊢
      clear hW5
      go_upto_region 5 with fail
      clear hw9 hb9 hw8 hB6 hb6 hw6 ha6 k6 hb1 hrow hmd hbo
      obtain ⟨A5, n5, c5, hL⟩ : ∃ A5 n5 c5, L 10 = ⟨A5, n5, c5⟩ := ⟨_, _, _, rfl⟩
      have HWO := Lib.hid (show ∀ x ∈ s.objs ++ [o], ∀ i < 18, N64 (x i) from fun x hx => by
        rcases List.mem_append.1 hx with h | h
        · exact HX.out.now.ow x h
        · rw [List.mem_singleton.1 h, HO.out]; exact made_n64 HI.out)
      have HWL := Lib.hid (show ∀ x ∈ s.lists 10 ++ [(n : Int)], N64 x from fun x hx => by
        rcases List.mem_append.1 hx with h | h
        · exact HX.out.now.lw 10 (by omega) x h
        · rw [List.mem_singleton.1 h]; have := HF2.out; exact ⟨by omega, by omega⟩)
      have HN5 := Lib.hid (show Nums .i64 W5 W5.heap.size A5 n5 (s.lists 10) from by
        have h := (HX.out W5 HM.out.s).l 10 (by omega)
        rw [hL] at h
        exact h)
      have k6 : W5.cell? ⟨g, 11, none⟩ = some (.slice A5 n5 c5) := by
        have h := (HM.out.a.cell 11).trans (stC_list _ L _ _ (show 10 < 11 by omega))
        rw [hL] at h
        exact h
      have hg6 : g < W5.heap.size := HM.out.a.lt
      clear hL
      refine region_stay g (by kernel_rfl) (fun hHeld => ?_)
      refine wpAnyH_take (i := 0) (v := ?_) rfl (by kernel_rfl) (by kernel_rfl) (by kernel_rfl) (fun _ _ _ h => h) (Or.inl ⟨by rfl, ?_⟩) hHeld ?_
      rotate_left
      · (intro w hSw; go_simp; (try with_reducible rfl))
      simp only [Act.put, List.getElem_toArray, List.getElem_cons_zero, List.getElem_cons_succ, List.setIfInBounds_toArray, List.set_cons_zero, List.set_cons_succ]
      refine wpAnyH_take (i := 1) (v := ?_) rfl (by kernel_rfl) (by kernel_rfl) (by kernel_rfl) (fun _ _ _ h => h) (Or.inl ⟨by rfl, ?_⟩) hHeld ?_
      rotate_left
      · (intro w hSw; go_simp; (try with_reducible rfl))
      simp only [Act.put, List.getElem_toArray, List.getElem_cons_zero, List.getElem_cons_succ, List.setIfInBounds_toArray, List.set_cons_zero, List.set_cons_succ]
      refine wpAnyH_take (i := 2) (v := ?_) rfl (by kernel_rfl) (by kernel_rfl) (by kernel_rfl) (fun _ _ _ h => h) (Or.inl ⟨by rfl, ?_⟩) hHeld ?_
      rotate_left
      · (intro w hSw; go_simp; (try with_reducible rfl))
      simp only [Act.put, List.getElem_toArray, List.getElem_cons_zero, List.getElem_cons_succ, List.setIfInBounds_toArray, List.set_cons_zero, List.set_cons_succ]
      refine wpAnyH_take (i := 3) (v := ?_) rfl (by kernel_rfl) (by kernel_rfl) (by kernel_rfl) (fun _ _ _ h => h) (Or.inl ⟨by rfl, ?_⟩) hHeld ?_
      rotate_left
      · (intro w hSw; go_simp; (try with_reducible rfl))
      simp only [Act.put, List.getElem_toArray, List.getElem_cons_zero, List.getElem_cons_succ, List.setIfInBounds_toArray, List.set_cons_zero, List.set_cons_succ]
      refine wpAnyH_take (i := 4) (v := ?_) rfl (by kernel_rfl) (by kernel_rfl) (by kernel_rfl) (fun _ _ _ h => h) (Or.inl ⟨by rfl, ?_⟩) hHeld ?_
      rotate_left
      · (intro w hSw; go_simp; (try with_reducible rfl))
      simp only [Act.put, List.getElem_toArray, List.getElem_cons_zero, List.getElem_cons_succ, List.setIfInBounds_toArray, List.set_cons_zero, List.set_cons_succ]
      refine wpAnyH_take (i := 6) (v := ?_) rfl (by kernel_rfl) (by kernel_rfl) (by kernel_rfl) (fun _ _ _ h => h) (Or.inl ⟨by rfl, ?_⟩) hHeld ?_
      rotate_left
      · (intro w hSw; go_simp; (try with_reducible rfl))
      simp only [Act.put, List.getElem_toArray, List.getElem_cons_zero, List.getElem_cons_succ, List.setIfInBounds_toArray, List.set_cons_zero, List.set_cons_succ]
      refine wpAnyH_take (i := 10) (v := ?_) rfl (by kernel_rfl) (by kernel_rfl) (by kernel_rfl) (fun _ _ _ h => h) (Or.inl ⟨by rfl, ?_⟩) hHeld ?_
      rotate_left
      · (intro w hSw; go_simp; (try with_reducible rfl))
      simp only [Act.put, List.getElem_toArray, List.getElem_cons_zero, List.getElem_cons_succ, List.setIfInBounds_toArray, List.set_cons_zero, List.set_cons_succ]
      refine wpAnyH_take (i := 11) (v := ?_) rfl (by kernel_rfl) (by kernel_rfl) (by kernel_rfl) (fun _ _ _ h => h) (Or.inl ⟨by rfl, ?_⟩) hHeld ?_
      rotate_left
      · (intro w hSw; go_simp; (try with_reducible rfl))
      simp only [Act.put, List.getElem_toArray, List.getElem_cons_zero, List.getElem_cons_succ, List.setIfInBounds_toArray, List.set_cons_zero, List.set_cons_succ]
      have k6 : W5.drew.cell? ⟨g, 11, none⟩ = some (.slice A5 n5 c5) := k6
      have hg6 : g < W5.drew.heap.size := hg6
      have hw6 : Below W5.heap.size W5 W5.drew := (Below.refl _ _).drew
      generalize W5.drew = W6 at hHeld k6 hg6 hw6 ⊢
      refine anyH_restay hHeld (fun hHeld => ?_)
      refine wpAnyH_ready (rs := [5, 7]) (by kernel_rfl) (by simp) ?_
      refine AllReadyH.cons rfl (fun K hK => ?_) (AllReadyH.cons rfl (fun K hK => ?_) AllReadyH.nil)
      all_goals simp only [List.getElem_toArray, List.getElem_cons_zero, List.getElem_cons_succ]
      all_goals go_simp
      · skip
        refine hK.out _ _ (Stay.refl _ _) (fun _ => ?_)
        clear hK K
        try simp only [Act.put, List.setIfInBounds_toArray, List.set_cons_zero, List.set_cons_succ]
        refine wpAnyH_ready (rs := [7]) (by kernel_rfl) (by simp) ?_
        refine AllReadyH.cons rfl (fun K hK => ?_) AllReadyH.nil
        simp only [List.getElem_toArray, List.getElem_cons_zero, List.getElem_cons_succ]
        go_simp
        have hone := Nums.one W6 .i64 (n : Int) 3
        obtain ⟨W7, hW7⟩ : ∃ W7, W7 = W6.alloc (.cells #[.int .i64 (n : Int)] 3) := ⟨_, rfl⟩
        have hb7 : Below W6.heap.size W6 W7 := by rw [hW7]; exact below_alloc _
        have hl7 : W6.heap.size + 1 ≤ W7.heap.size := by rw [hW7]; simp
        rw [← hW7] at hone ⊢
        have hone := hone.more hl7
        obtain ⟨g7, hg7⟩ : ∃ g7, g7 = W6.heap.size := ⟨_, rfl⟩
        rw [← hg7] at hone ⊢
        clear hW7 hl7 hg7
        have hw7 := keepB hb7 hw6
        have k7 : W7.cell? ⟨g, 11, none⟩ = some (.slice A5 n5 c5) := (hb7.cell (by simpa using hg6)).trans k6
        clear k6
        refine hK.out _ _ (Stay.of hb7) (fun _ => ?_)
        clear hK K
        try simp only [Act.put, List.setIfInBounds_toArray, List.set_cons_zero, List.set_cons_succ]
        refine anyH_restay (Stay.of hb7) (fun hHeld => ?_)
        refine wpAnyH_ready (rs := [8]) (by kernel_rfl) (by simp) ?_
        refine AllReadyH.cons rfl (fun K hK => ?_) AllReadyH.nil
        simp only [List.getElem_toArray, List.getElem_cons_zero, List.getElem_cons_succ]
        go_simp
        have hP := parts2 (W := W7) (p1 := ⟨A5, n5, c5, s.lists 10⟩) (p2 := ⟨some ⟨g7, 0, none⟩, 1, 1, [(n : Int)]⟩) ((HN5.out.below hw7).more hw7.size) hone 23
        have hb8 : Below W7.heap.size W7 (W7.alloc (.cells #[.slice A5 n5 c5, .slice (some ⟨g7, 0, none⟩) 1 1] 23)) := below_alloc _
        simp only at hP
        obtain ⟨g8, hg8⟩ : ∃ g8, g8 = W7.heap.size := ⟨_, rfl⟩
        rw [← hg8] at hP ⊢
        obtain ⟨W8, hW8⟩ : ∃ W8, W8 = W7.alloc (.cells #[.slice A5 n5 c5, .slice (some ⟨g7, 0, none⟩) 1 1] 23) := ⟨_, rfl⟩
        rw [← hW8] at hP hb8 ⊢
        clear hW8 hg8
        have hw8 := keepB hb8 hw7
        refine hK.out _ _ (Stay.of hb8) (fun _ => ?_)
        clear hK K
        try simp only [Act.put, List.setIfInBounds_toArray, List.set_cons_zero, List.set_cons_succ]
        refine anyH_restay (Stay.of hb8) (fun hHeld => ?_)
        have hcat : catP [⟨A5, n5, c5, s.lists 10⟩, ⟨some ⟨g7, 0, none⟩, 1, 1, [(n : Int)]⟩] = s.lists 10 ++ [(n : Int)] := by simp [catP]
        have hcc := concat_any g8 2 2 _ W8 hP rfl (by omega) (by rw [hcat]; simp; have := HLL.out 10 (by omega); have := HF2.out; omega)
        rw [hcat] at hcc
        clear hcat hP
        refine wpAnyH_ready (rs := [9]) (by kernel_rfl) (by simp) ?_
        refine AllReadyH.cons rfl (fun K hK => ?_) AllReadyH.nil
        simp only [List.getElem_toArray, List.getElem_cons_zero, List.getElem_cons_succ]
        go_simp
        refine hcc.mono ?_
        rintro en W9 ⟨A9, n9, c9, rfl, ho9, hb9⟩
        clear hcc
        go_wp2_with fail
        have hB9 := hHeld.then hb9
        refine hK.out _ _ hB9 (fun _ => ?_)
        clear hK K
        try simp only [Act.put, List.setIfInBounds_toArray, List.set_cons_zero, List.set_cons_succ]
        refine anyH_restay hB9 (fun hHeld => ?_)
        have hw9 := keepB hb9 hw8
        have ha9 := HM.out.a.keep hw9
        have k9 : W9.cell? ⟨g, 11, none⟩ = some (.slice A5 n5 c5) := (keepB hb9 hb8).cell (p := ⟨g, 11, none⟩) (by have := hb7.size; simp only; omega) |>.trans k7
        have f9 := frozen_of_row W9 g 11 _ _ ha9
        have HFin := Lib.hid (made_end HX.out HM.out hgl HWO.out hw9 ((ho9.base_le (show w.heap.size ≤ W8.heap.size from Nat.le_trans HM.out.s.size hw8.size)).slR) HWL.out HR.out)
        clear k7 hw7 hb8 ho9 hb7 hone ha9 hw8 hw9
        refine wpAnyH_take (i := 12) (v := ?_) rfl (by kernel_rfl) (by kernel_rfl) (by kernel_rfl) (fun _ _ _ h => h) (Or.inl ⟨by rfl, ?_⟩) hHeld ?_
        rotate_left
        · (intro w hSw; go_simp; (try with_reducible rfl))
        simp only [Act.put, List.getElem_toArray, List.getElem_cons_zero, List.getElem_cons_succ, List.setIfInBounds_toArray, List.set_cons_zero, List.set_cons_succ]
        refine wpAnyH_ready (rs := [13]) (by kernel_rfl) (by simp) ?_
        refine AllReadyH.cons rfl (fun K hK => ?_) AllReadyH.nil
        simp only [List.getElem_toArray, List.getElem_cons_zero, List.getElem_cons_succ]
        go_simp
        refine hK.out _ _ ((Stay.refl g W9).set_ 11 _) (fun _ => ?_)
        clear hK K
        try simp only [Act.put, List.setIfInBounds_toArray, List.set_cons_zero, List.set_cons_succ]
        refine wpAnyH_done (by kernel_rfl) ?_ _
        clear k9 f9 hB9 hHeld hb9
        go_wp2_with fail
        go_ret
        exact HFin.out
      · skip
        have hone := Nums.one W6 .i64 (n : Int) 3
        obtain ⟨W7, hW7⟩ : ∃ W7, W7 = W6.alloc (.cells #[.int .i64 (n : Int)] 3) := ⟨_, rfl⟩
        have hb7 : Below W6.heap.size W6 W7 := by rw [hW7]; exact below_alloc _
        have hl7 : W6.heap.size + 1 ≤ W7.heap.size := by rw [hW7]; simp
        rw [← hW7] at hone ⊢
        have hone := hone.more hl7
        obtain ⟨g7, hg7⟩ : ∃ g7, g7 = W6.heap.size := ⟨_, rfl⟩
        rw [← hg7] at hone ⊢
        clear hW7 hl7 hg7
        have hw7 := keepB hb7 hw6
        have k7 : W7.cell? ⟨g, 11, none⟩ = some (.slice A5 n5 c5) := (hb7.cell (by simpa using hg6)).trans k6
        clear k6
        refine hK.out _ _ (Stay.of hb7) (fun _ => ?_)
        clear hK K
        try simp only [Act.put, List.setIfInBounds_toArray, List.set_cons_zero, List.set_cons_succ]
        refine anyH_restay (Stay.of hb7) (fun hHeld => ?_)
        refine wpAnyH_ready (rs := [5]) (by kernel_rfl) (by simp) ?_
        refine AllReadyH.cons rfl (fun K hK => ?_) AllReadyH.nil
        simp only [List.getElem_toArray, List.getElem_cons_zero, List.getElem_cons_succ]
        go_simp
        refine hK.out _ _ (Stay.refl _ _) (fun _ => ?_)
        clear hK K
        try simp only [Act.put, List.setIfInBounds_toArray, List.set_cons_zero, List.set_cons_succ]
        refine wpAnyH_ready (rs := [8]) (by kernel_rfl) (by simp) ?_
        refine AllReadyH.cons rfl (fun K hK => ?_) AllReadyH.nil
        simp only [List.getElem_toArray, List.getElem_cons_zero, List.getElem_cons_succ]
        go_simp
        have hP := parts2 (W := W7) (p1 := ⟨A5, n5, c5, s.lists 10⟩) (p2 := ⟨some ⟨g7, 0, none⟩, 1, 1, [(n : Int)]⟩) ((HN5.out.below hw7).more hw7.size) hone 23
        have hb8 : Below W7.heap.size W7 (W7.alloc (.cells #[.slice A5 n5 c5, .slice (some ⟨g7, 0, none⟩) 1 1] 23)) := below_alloc _
        simp only at hP
        obtain ⟨g8, hg8⟩ : ∃ g8, g8 = W7.heap.size := ⟨_, rfl⟩
        rw [← hg8] at hP ⊢
        obtain ⟨W8, hW8⟩ : ∃ W8, W8 = W7.alloc (.cells #[.slice A5 n5 c5, .slice (some ⟨g7, 0, none⟩) 1 1] 23) := ⟨_, rfl⟩
        rw [← hW8] at hP hb8 ⊢
        clear hW8 hg8
        have hw8 := keepB hb8 hw7
        refine hK.out _ _ (Stay.of hb8) (fun _ => ?_)
        clear hK K
        try simp only [Act.put, List.setIfInBounds_toArray, List.set_cons_zero, List.set_cons_succ]
        refine anyH_restay (Stay.of hb8) (fun hHeld => ?_)
        have hcat : catP [⟨A5, n5, c5, s.lists 10⟩, ⟨some ⟨g7, 0, none⟩, 1, 1, [(n : Int)]⟩] = s.lists 10 ++ [(n : Int)] := by simp [catP]
        have hcc := concat_any g8 2 2 _ W8 hP rfl (by omega) (by rw [hcat]; simp; have := HLL.out 10 (by omega); have := HF2.out; omega)
        rw [hcat] at hcc
        clear hcat hP
        refine wpAnyH_ready (rs := [9]) (by kernel_rfl) (by simp) ?_
        refine AllReadyH.cons rfl (fun K hK => ?_) AllReadyH.nil
        simp only [List.getElem_toArray, List.getElem_cons_zero, List.getElem_cons_succ]
        go_simp
        refine hcc.mono ?_
        rintro en W9 ⟨A9, n9, c9, rfl, ho9, hb9⟩
        clear hcc
        go_wp2_with fail
        have hB9 := hHeld.then hb9
        refine hK.out _ _ hB9 (fun _ => ?_)
        clear hK K
        try simp only [Act.put, List.setIfInBounds_toArray, List.set_cons_zero, List.set_cons_succ]
        refine anyH_restay hB9 (fun hHeld => ?_)
        have hw9 := keepB hb9 hw8
        have ha9 := HM.out.a.keep hw9
        have k9 : W9.cell? ⟨g, 11, none⟩ = some (.slice A5 n5 c5) := (keepB hb9 hb8).cell (p := ⟨g, 11, none⟩) (by have := hb7.size; simp only; omega) |>.trans k7
        have f9 := frozen_of_row W9 g 11 _ _ ha9
        have HFin := Lib.hid (made_end HX.out HM.out hgl HWO.out hw9 ((ho9.base_le (show w.heap.size ≤ W8.heap.size from Nat.le_trans HM.out.s.size hw8.size)).slR) HWL.out HR.out)
        clear k7 hw7 hb8 ho9 hb7 hone ha9 hw8 hw9
        refine wpAnyH_take (i := 12) (v := ?_) rfl (by kernel_rfl) (by kernel_rfl) (by kernel_rfl) (fun _ _ _ h => h) (Or.inl ⟨by rfl, ?_⟩) hHeld ?_
        rotate_left
        · (intro w hSw; go_simp; (try with_reducible rfl))
        simp only [Act.put, List.getElem_toArray, List.getElem_cons_zero, List.getElem_cons_succ, List.setIfInBounds_toArray, List.set_cons_zero, List.set_cons_succ]
        refine wpAnyH_ready (rs := [13]) (by kernel_rfl) (by simp) ?_
        refine AllReadyH.cons rfl (fun K hK => ?_) AllReadyH.nil
        simp only [List.getElem_toArray, List.getElem_cons_zero, List.getElem_cons_succ]
        go_simp
        refine hK.out _ _ ((Stay.refl g W9).set_ 11 _) (fun _ => ?_)
        clear hK K
        try simp only [Act.put, List.setIfInBounds_toArray, List.set_cons_zero, List.set_cons_succ]
        refine wpAnyH_done (by kernel_rfl) ?_ _
        clear k9 f9 hB9 hHeld hb9
        go_wp2_with fail
        go_ret
        exact HFin.out
    · skip
      simp only [List.getElem_toArray, List.getElem_cons_zero, List.getElem_cons_succ]
      rw [if_pos (by rfl)]
      refine wp_buildSliceOf (.tmp 20) rfl o rfl ?_
      obtain ⟨W2, hW2⟩ : ∃ W2, W2 = W1.alloc (.cells (arr .i64 18 o) 61) := ⟨_, rfl⟩
      have hb7 : Below W1.heap.size W1 W2 := by rw [hW2]; exact (Below.refl _ _).alloc (Nat.le_refl _) _
      have hob : ObAt W2 W1.heap.size o := by rw [hW2]; exact heap_alloc_new _ _
      rw [← hW2]
      have ha7 := ha6.keep hb7
      have hw7 := keepB hb7 hw6
      have k7 : W2.cell? ⟨g, 0, none⟩ = some (.slice A n c) := (ha7.cell 0).trans (stC_objs _ _ _ _)
      clear hW2
      refine hK.out _ _ (Stay.of hb7) (fun _ => ?_)
      clear hK K
      try simp only [Act.put, List.setIfInBounds_toArray, List.set_cons_zero, List.set_cons_succ]
      refine anyH_restay (Stay.of hb7) (fun hHeld => ?_)
      refine wpAnyH_ready (rs := [4]) (by kernel_rfl) (by simp) ?_
      refine AllReadyH.cons rfl (fun K hK => ?_) AllReadyH.nil
      simp only [List.getElem_toArray, List.getElem_cons_zero, List.getElem_cons_succ]
      go_simp
      refine hK.out _ _ (Stay.refl _ _) (fun _ => ?_)
      clear hK K
      try simp only [Act.put, List.setIfInBounds_toArray, List.set_cons_zero, List.set_cons_succ]
      refine wpAnyH_ready (rs := [8]) (by kernel_rfl) (by simp) ?_
      refine AllReadyH.cons rfl (fun K hK => ?_) AllReadyH.nil
      simp only [List.getElem_toArray, List.getElem_cons_zero, List.getElem_cons_succ]
      go_simp
      have hr1 : RdO W2.heap.size W2 A s.objs := (HX.out W2 (Stay.of hw7)).o
      have hP := parts2O (W := W2) (p1 := ⟨A, n, c, s.objs⟩) (p2 := ⟨some ⟨W1.heap.size, 0, none⟩, 1, 1, [o]⟩) hr1 (rdO_one hob) HN.out rfl 22
      have hb8 : Below W2.heap.size W2 (W2.alloc (.cells #[.slice A n c, .slice (some ⟨W1.heap.size, 0, none⟩) 1 1] 22)) := (Below.refl _ _).alloc (Nat.le_refl _) _
      simp only at hP
      obtain ⟨g8, hg8⟩ : ∃ g8, g8 = W2.heap.size := ⟨_, rfl⟩
      rw [← hg8] at hP ⊢
      obtain ⟨W3, hW3⟩ : ∃ W3, W3 = W2.alloc (.cells #[.slice A n c, .slice (some ⟨W1.heap.size, 0, none⟩) 1 1] 22) := ⟨_, rfl⟩
      rw [← hW3] at hP hb8 ⊢
      clear hW3 hr1 hg8
      have ha8 := ha7.keep hb8
      have hw8 := keepB hb8 hw7
      refine hK.out _ _ (Stay.of hb8) (fun _ => ?_)
      clear hK K
      try simp only [Act.put, List.setIfInBounds_toArray, List.set_cons_zero, List.set_cons_succ]
      refine anyH_restay (Stay.of hb8) (fun hHeld => ?_)
      have hcat : catO [⟨A, n, c, s.objs⟩, ⟨some ⟨W1.heap.size, 0, none⟩, 1, 1, [o]⟩] = s.objs ++ [o] := by simp [catO]
      have hcc := concatO_any g8 2 2 _ W3 hP rfl (by omega) (by rw [hcat]; simp; have := HF.out; omega)
      rw [hcat] at hcc
      clear hcat hP
      refine wpAnyH_ready (rs := [9]) (by kernel_rfl) (by simp) ?_
      refine AllReadyH.cons rfl (fun K hK => ?_) AllReadyH.nil
      simp only [List.getElem_toArray, List.getElem_cons_zero, List.getElem_cons_succ]
      go_simp
      refine hcc.mono ?_
      rintro en W4 ⟨A4, n4, c4, rfl, ho4, hb9⟩
      clear hcc
      go_wp2_with fail
      have hB9 := hHeld.then hb9
      refine hK.out _ _ hB9 (fun _ => ?_)
      clear hK K
      try simp only [Act.put, List.setIfInBounds_toArray, List.set_cons_zero, List.set_cons_succ]
      refine anyH_restay hB9 (fun hHeld => ?_)
      have ha9 := ha8.keep hb9
      have hw9 := keepB hb9 hw8
      have k9 : W4.cell? ⟨g, 0, none⟩ = some (.slice A n c) := (ha9.cell 0).trans (stC_objs _ _ _ _)
      have f9 := frozen_of_row W4 g 0 _ _ ha9
      have ho9 := ho4.low hw8.size
      clear k7 ha7 hw7 hb8 ha8 ho4 hb7 hob
      refine wpAnyH_take (i := 10) (v := ?_) rfl (by kernel_rfl) (by kernel_rfl) (by kernel_rfl) (fun _ _ _ h => h) (Or.inl ⟨by rfl, ?_⟩) hHeld ?_
      rotate_left
      · (intro w hSw; go_simp; (try with_reducible rfl))
      simp only [Act.put, List.getElem_toArray, List.getElem_cons_zero, List.getElem_cons_succ, List.setIfInBounds_toArray, List.set_cons_zero, List.set_cons_succ]
      refine wpAnyH_take (i := 11) (v := ?_) rfl (by kernel_rfl) (by kernel_rfl) (by kernel_rfl) (fun _ _ _ h => h) (Or.inl ⟨by rfl, ?_⟩) hHeld ?_
      rotate_left
      · (intro w hSw; go_simp; (try with_reducible rfl))
      simp only [Act.put, List.getElem_toArray, List.getElem_cons_zero, List.getElem_cons_succ, List.setIfInBounds_toArray, List.set_cons_zero, List.set_cons_succ]
      refine wpAnyH_ready (rs := [12]) (by kernel_rfl) (by simp) ?_
      refine AllReadyH.cons rfl (fun K hK => ?_) AllReadyH.nil
      simp only [List.getElem_toArray, List.getElem_cons_zero, List.getElem_cons_succ]
      go_simp
      refine hK.out _ _ ((Stay.refl g W4).set_ 0 _) (fun _ => ?_)
      clear hK K
      try simp only [Act.put, List.setIfInBounds_toArray, List.set_cons_zero, List.set_cons_succ]
      refine wpAnyH_done (by kernel_rfl) ?_ _
      have HM := Lib.hid (make_mid ha9 (Stay.of hw9) hgl ho9)
      clear ha9 ho9 k9 f9 hB9 hHeld
      obtain ⟨W5, hW5⟩ : ∃ W5, W5 = W4.setCell ⟨g, 0, none⟩ (.slice A4 n4 c4) := ⟨_, rfl⟩
      rw [← hW5] at HM ⊢
      clear hW5
      go_upto_region 5 with fail
      clear hw9 hb9 hw8 hB6 hb6 hw6 ha6 k6 hb1 hrow hmd hbo
      obtain ⟨A5, n5, c5, hL⟩ : ∃ A5 n5 c5, L 10 = ⟨A5, n5, c5⟩ := ⟨_, _, _, rfl⟩
      have HWO := Lib.hid (show ∀ x ∈ s.objs ++ [o], ∀ i < 18, N64 (x i) from fun x hx => by
        rcases List.mem_append.1 hx with h | h
        · exact HX.out.now.ow x h
        · rw [List.mem_singleton.1 h, HO.out]; exact made_n64 HI.out)
      have HWL := Lib.hid (show ∀ x ∈ s.lists 10 ++ [(n : Int)], N64 x from fun x hx => by
        rcases List.mem_append.1 hx with h | h
        · exact HX.out.now.lw 10 (by omega) x h
        · rw [List.mem_singleton.1 h]; have := HF2.out; exact ⟨by omega, by omega⟩)
      have HN5 := Lib.hid (show Nums .i64 W5 W5.heap.size A5 n5 (s.lists 10) from by
        have h := (HX.out W5 HM.out.s).l 10 (by omega)
        rw [hL] at h
        exact h)
      have k6 : W5.cell? ⟨g, 11, none⟩ = some (.slice A5 n5 c5) := by
        have h := (HM.out.a.cell 11).trans (stC_list _ L _ _ (show 10 < 11 by omega))
        rw [hL] at h
        exact h
      have hg6 : g < W5.heap.size := HM.out.a.lt
      clear hL
      refine region_stay g (by kernel_rfl) (fun hHeld => ?_)
      refine wpAnyH_take (i := 0) (v := ?_) rfl (by kernel_rfl) (by kernel_rfl) (by kernel_rfl) (fun _ _ _ h => h) (Or.inl ⟨by rfl, ?_⟩) hHeld ?_
      rotate_left
      · (intro w hSw; go_simp; (try with_reducible rfl))
      simp only [Act.put, List.getElem_toArray, List.getElem_cons_zero, List.getElem_cons_succ, List.setIfInBounds_toArray, List.set_cons_zero, List.set_cons_succ]
      refine wpAnyH_take (i := 1) (v := ?_) rfl (by kernel_rfl) (by kernel_rfl) (by kernel_rfl) (fun _ _ _ h => h) (Or.inl ⟨by rfl, ?_⟩) hHeld ?_
      rotate_left
      · (intro w hSw; go_simp; (try with_reducible rfl))
      simp only [Act.put, List.getElem_toArray, List.getElem_cons_zero, List.getElem_cons_succ, List.setIfInBounds_toArray, List.set_cons_zero, List.set_cons_succ]
      refine wpAnyH_take (i := 2) (v := ?_) rfl (by kernel_rfl) (by kernel_rfl) (by kernel_rfl) (fun _ _ _ h => h) (Or.inl ⟨by rfl, ?_⟩) hHeld ?_
      rotate_left
      · (intro w hSw; go_simp; (try with_reducible rfl))
      simp only [Act.put, List.getElem_toArray, List.getElem_cons_zero, List.getElem_cons_succ, List.setIfInBounds_toArray, List.set_cons_zero, List.set_cons_succ]
      refine wpAnyH_take (i := 3) (v := ?_) rfl (by kernel_rfl) (by kernel_rfl) (by kernel_rfl) (fun _ _ _ h => h) (Or.inl ⟨by rfl, ?_⟩) hHeld ?_
      rotate_left
      · (intro w hSw; go_simp; (try with_reducible rfl))
      simp only [Act.put, List.getElem_toArray, List.getElem_cons_zero, List.getElem_cons_succ, List.setIfInBounds_toArray, List.set_cons_zero, List.set_cons_succ]
      refine wpAnyH_take (i := 4) (v := ?_) rfl (by kernel_rfl) (by kernel_rfl) (by kernel_rfl) (fun _ _ _ h => h) (Or.inl ⟨by rfl, ?_⟩) hHeld ?_
      rotate_left
      · (intro w hSw; go_simp; (try with_reducible rfl))
      simp only [Act.put, List.getElem_toArray, List.getElem_cons_zero, List.getElem_cons_succ, List.setIfInBounds_toArray, List.set_cons_zero, List.set_cons_succ]
      refine wpAnyH_take (i := 6) (v := ?_) rfl (by kernel_rfl) (by kernel_rfl) (by kernel_rfl) (fun _ _ _ h => h) (Or.inl ⟨by rfl, ?_⟩) hHeld ?_
      rotate_left
      · (intro w hSw; go_simp; (try with_reducible rfl))
      simp only [Act.put, List.getElem_toArray, List.getElem_cons_zero, List.getElem_cons_succ, List.setIfInBounds_toArray, List.set_cons_zero, List.set_cons_succ]
      refine wpAnyH_take (i := 10) (v := ?_) rfl (by kernel_rfl) (by kernel_rfl) (by kernel_rfl) (fun _ _ _ h => h) (Or.inl ⟨by rfl, ?_⟩) hHeld ?_
      rotate_left
      · (intro w hSw; go_simp; (try with_reducible rfl))
      simp only [Act.put, List.getElem_toArray, List.getElem_cons_zero, List.getElem_cons_succ, List.setIfInBounds_toArray, List.set_cons_zero, List.set_cons_succ]
      refine wpAnyH_take (i := 11) (v := ?_) rfl (by kernel_rfl) (by kernel_rfl) (by kernel_rfl) (fun _ _ _ h => h) (Or.inl ⟨by rfl, ?_⟩) hHeld ?_
      rotate_left
      · (intro w hSw; go_simp; (try with_reducible rfl))
      simp only [Act.put, List.getElem_toArray, List.getElem_cons_zero, List.getElem_cons_succ, List.setIfInBounds_toArray, List.set_cons_zero, List.set_cons_succ]
      have k6 : W5.drew.cell? ⟨g, 11, none⟩ = some (.slice A5 n5 c5) := k6
      have hg6 : g < W5.drew.heap.size := hg6
      have hw6 : Below W5.heap.size W5 W5.drew := (Below.refl _ _).drew
      generalize W5.drew = W6 at hHeld k6 hg6 hw6 ⊢
      refine anyH_restay hHeld (fun hHeld => ?_)
      refine wpAnyH_ready (rs := [5, 7]) (by kernel_rfl) (by simp) ?_
      refine AllReadyH.cons rfl (fun K hK => ?_) (AllReadyH.cons rfl (fun K hK => ?_) AllReadyH.nil)
      all_goals simp only [List.getElem_toArray, List.getElem_cons_zero, List.getElem_cons_succ]
      all_goals go_simp
      · skip
        refine hK.out _ _ (Stay.refl _ _) (fun _ => ?_)
        clear hK K
        try simp only [Act.put, List.setIfInBounds_toArray, List.set_cons_zero, List.set_cons_succ]
        refine wpAnyH_ready (rs := [7]) (by kernel_rfl) (by simp) ?_
        refine AllReadyH.cons rfl (fun K hK => ?_) AllReadyH.nil
        simp only [List.getElem_toArray, List.getElem_cons_zero, List.getElem_cons_succ]
        go_simp
        have hone := Nums.one W6 .i64 (n : Int) 3
        obtain ⟨W7, hW7⟩ : ∃ W7, W7 = W6.alloc (.cells #[.int .i64 (n : Int)] 3) := ⟨_, rfl⟩
        have hb7 : Below W6.heap.size W6 W7 := by rw [hW7]; exact below_alloc _
        have hl7 : W6.heap.size + 1 ≤ W7.heap.size := by rw [hW7]; simp
        rw [← hW7] at hone ⊢
        have hone := hone.more hl7
        obtain ⟨g7, hg7⟩ : ∃ g7, g7 = W6.heap.size := ⟨_, rfl⟩
        rw [← hg7] at hone ⊢
        clear hW7 hl7 hg7
        have hw7 := keepB hb7 hw6
        have k7 : W7.cell? ⟨g, 11, none⟩ = some (.slice A5 n5 c5) := (hb7.cell (by simpa using hg6)).trans k6
        clear k6
        refine hK.out _ _ (Stay.of hb7) (fun _ => ?_)
        clear hK K
        try simp only [Act.put, List.setIfInBounds_toArray, List.set_cons_zero, List.set_cons_succ]
        refine anyH_restay (Stay.of hb7) (fun hHeld => ?_)
        refine wpAnyH_ready (rs := [8]) (by kernel_rfl) (by simp) ?_
        refine AllReadyH.cons rfl (fun K hK => ?_) AllReadyH.nil
        simp only [List.getElem_toArray, List.getElem_cons_zero, List.getElem_cons_succ]
        go_simp
        have hP := parts2 (W := W7) (p1 := ⟨A5, n5, c5, s.lists 10⟩) (p2 := ⟨some ⟨g7, 0, none⟩, 1, 1, [(n : Int)]⟩) ((HN5.out.below hw7).more hw7.size) hone 23
        have hb8 : Below W7.heap.size W7 (W7.alloc (.cells #[.slice A5 n5 c5, .slice (some ⟨g7, 0, none⟩) 1 1] 23)) := below_alloc _
        simp only at hP
        obtain ⟨g8, hg8⟩ : ∃ g8, g8 = W7.heap.size := ⟨_, rfl⟩
        rw [← hg8] at hP ⊢
        obtain ⟨W8, hW8⟩ : ∃ W8, W8 = W7.alloc (.cells #[.slice A5 n5 c5, .slice (some ⟨g7, 0, none⟩) 1 1] 23) := ⟨_, rfl⟩
        rw [← hW8] at hP hb8 ⊢
        clear hW8 hg8
        have hw8 := keepB hb8 hw7
        refine hK.out _ _ (Stay.of hb8) (fun _ => ?_)
        clear hK K
        try simp only [Act.put, List.setIfInBounds_toArray, List.set_cons_zero, List.set_cons_succ]
        refine anyH_restay (Stay.of hb8) (fun hHeld => ?_)
        have hcat : catP [⟨A5, n5, c5, s.lists 10⟩, ⟨some ⟨g7, 0, none⟩, 1, 1, [(n : Int)]⟩] = s.lists 10 ++ [(n : Int)] := by simp [catP]
        have hcc := concat_any g8 2 2 _ W8 hP rfl (by omega) (by rw [hcat]; simp; have := HLL.out 10 (by omega); have := HF2.out; omega)
        rw [hcat] at hcc
        clear hcat hP
        refine wpAnyH_ready (rs := [9]) (by kernel_rfl) (by simp) ?_
        refine AllReadyH.cons rfl (fun K hK => ?_) AllReadyH.nil
        simp only [List.getElem_toArray, List.getElem_cons_zero, List.getElem_cons_succ]
        go_simp
        refine hcc.mono ?_
        rintro en W9 ⟨A9, n9, c9, rfl, ho9, hb9⟩
        clear hcc
        go_wp2_with fail
        have hB9 := hHeld.then hb9
        refine hK.out _ _ hB9 (fun _ => ?_)
        clear hK K
        try simp only [Act.put, List.setIfInBounds_toArray, List.set_cons_zero, List.set_cons_succ]
        refine anyH_restay hB9 (fun hHeld => ?_)
        have hw9 := keepB hb9 hw8
        have ha9 := HM.out.a.keep hw9
        have k9 : W9.cell? ⟨g, 11, none⟩ = some (.slice A5 n5 c5) := (keepB hb9 hb8).cell (p := ⟨g, 11, none⟩) (by have := hb7.size; simp only; omega) |>.trans k7
        have f9 := frozen_of_row W9 g 11 _ _ ha9
        have HFin := Lib.hid (made_end HX.out HM.out hgl HWO.out hw9 ((ho9.base_le (show w.heap.size ≤ W8.heap.size from Nat.le_trans HM.out.s.size hw8.size)).slR) HWL.out HR.out)
        clear k7 hw7 hb8 ho9 hb7 hone ha9 hw8 hw9
        refine wpAnyH_take (i := 12) (v := ?_) rfl (by kernel_rfl) (by kernel_rfl) (by kernel_rfl) (fun _ _ _ h => h) (Or.inl ⟨by rfl, ?_⟩) hHeld ?_
        rotate_left
        · (intro w hSw; go_simp; (try with_reducible rfl))
        simp only [Act.put, List.getElem_toArray, List.getElem_cons_zero, List.getElem_cons_succ, List.setIfInBounds_toArray, List.set_cons_zero, List.set_cons_succ]
        refine wpAnyH_ready (rs := [13]) (by kernel_rfl) (by simp) ?_
        refine AllReadyH.cons rfl (fun K hK => ?_) AllReadyH.nil
        simp only [List.getElem_toArray, List.getElem_cons_zero, List.getElem_cons_succ]
        go_simp
        refine hK.out _ _ ((Stay.refl g W9).set_ 11 _) (fun _ => ?_)
        clear hK K
        try simp only [Act.put, List.setIfInBounds_toArray, List.set_cons_zero, List.set_cons_succ]
        refine wpAnyH_done (by kernel_rfl) ?_ _
        clear k9 f9 hB9 hHeld hb9
        go_wp2_with fail
        go_ret
        exact HFin.out
      · skip
        have hone := Nums.one W6 .i64 (n : Int) 3
        obtain ⟨W7, hW7⟩ : ∃ W7, W7 = W6.alloc (.cells #[.int .i64 (n : Int)] 3) := ⟨_, rfl⟩
        have hb7 : Below W6.heap.size W6 W7 := by rw [hW7]; exact below_alloc _
        have hl7 : W6.heap.size + 1 ≤ W7.heap.size := by rw [hW7]; simp
        rw [← hW7] at hone ⊢
        have hone := hone.more hl7
        obtain ⟨g7, hg7⟩ : ∃ g7, g7 = W6.heap.size := ⟨_, rfl⟩
        rw [← hg7] at hone ⊢
        clear hW7 hl7 hg7
        have hw7 := keepB hb7 hw6
        have k7 : W7.cell? ⟨g, 11, none⟩ = some (.slice A5 n5 c5) := (hb7.cell (by simpa using hg6)).trans k6
        clear k6
        refine hK.out _ _ (Stay.of hb7) (fun _ => ?_)
        clear hK K
        try simp only [Act.put, List.setIfInBounds_toArray, List.set_cons_zero, List.set_cons_succ]
        refine anyH_restay (Stay.of hb7) (fun hHeld => ?_)
        refine wpAnyH_ready (rs := [5]) (by kernel_rfl) (by simp) ?_
        refine AllReadyH.cons rfl (fun K hK => ?_) AllReadyH.nil
        simp only [List.getElem_toArray, List.getElem_cons_zero, List.getElem_cons_succ]
        go_simp
        refine hK.out _ _ (Stay.refl _ _) (fun _ => ?_)
        clear hK K
        try simp only [Act.put, List.setIfInBounds_toArray, List.set_cons_zero, List.set_cons_succ]
        refine wpAnyH_ready (rs := [8]) (by kernel_rfl) (by simp) ?_
        refine AllReadyH.cons rfl (fun K hK => ?_) AllReadyH.nil
        simp only [List.getElem_toArray, List.getElem_cons_zero, List.getElem_cons_succ]
        go_simp
        have hP := parts2 (W := W7) (p1 := ⟨A5, n5, c5, s.lists 10⟩) (p2 := ⟨some ⟨g7, 0, none⟩, 1, 1, [(n : Int)]⟩) ((HN5.out.below hw7).more hw7.size) hone 23
        have hb8 : Below W7.heap.size W7 (W7.alloc (.cells #[.slice A5 n5 c5, .slice (some ⟨g7, 0, none⟩) 1 1] 23)) := below_alloc _
        simp only at hP
        obtain ⟨g8, hg8⟩ : ∃ g8, g8 = W7.heap.size := ⟨_, rfl⟩
        rw [← hg8] at hP ⊢
        obtain ⟨W8, hW8⟩ : ∃ W8, W8 = W7.alloc (.cells #[.slice A5 n5 c5, .slice (some ⟨g7, 0, none⟩) 1 1] 23) := ⟨_, rfl⟩
        rw [← hW8] at hP hb8 ⊢
        clear hW8 hg8
        have hw8 := keepB hb8 hw7
        refine hK.out _ _ (Stay.of hb8) (fun _ => ?_)
        clear hK K
        try simp only [Act.put, List.setIfInBounds_toArray, List.set_cons_zero, List.set_cons_succ]
        refine anyH_restay (Stay.of hb8) (fun hHeld => ?_)
        have hcat : catP [⟨A5, n5, c5, s.lists 10⟩, ⟨some ⟨g7, 0, none⟩, 1, 1, [(n : Int)]⟩] = s.lists 10 ++ [(n : Int)] := by simp [catP]
        have hcc := concat_any g8 2 2 _ W8 hP rfl (by omega) (by rw [hcat]; simp; have := HLL.out 10 (by omega); have := HF2.out; omega)
        rw [hcat] at hcc
        clear hcat hP
        refine wpAnyH_ready (rs := [9]) (by kernel_rfl) (by simp) ?_
        refine AllReadyH.cons rfl (fun K hK => ?_) AllReadyH.nil
        simp only [List.getElem_toArray, List.getElem_cons_zero, List.getElem_cons_succ]
        go_simp
        refine hcc.mono ?_
        rintro en W9 ⟨A9, n9, c9, rfl, ho9, hb9⟩
        clear hcc
        go_wp2_with fail
        have hB9 := hHeld.then hb9
        refine hK.out _ _ hB9 (fun _ => ?_)
        clear hK K
        try simp only [Act.put, List.setIfInBounds_toArray, List.set_cons_zero, List.set_cons_succ]
        refine anyH_restay hB9 (fun hHeld => ?_)
        have hw9 := keepB hb9 hw8
        have ha9 := HM.out.a.keep hw9
        have k9 : W9.cell? ⟨g, 11, none⟩ = some (.slice A5 n5 c5) := (keepB hb9 hb8).cell (p := ⟨g, 11, none⟩) (by have := hb7.size; simp only; omega) |>.trans k7
        have f9 := frozen_of_row W9 g 11 _ _ ha9
        have HFin := Lib.hid (made_end HX.out HM.out hgl HWO.out hw9 ((ho9.base_le (show w.heap.size ≤ W8.heap.size from Nat.le_trans HM.out.s.size hw8.size)).slR) HWL.out HR.out)
        clear k7 hw7 hb8 ho9 hb7 hone ha9 hw8 hw9
        refine wpAnyH_take (i := 12) (v := ?_) rfl (by kernel_rfl) (by kernel_rfl) (by kernel_rfl) (fun _ _ _ h => h) (Or.inl ⟨by rfl, ?_⟩) hHeld ?_
        rotate_left
        · (intro w hSw; go_simp; (try with_reducible rfl))
        simp only [Act.put, List.getElem_toArray, List.getElem_cons_zero, List.getElem_cons_succ, List.setIfInBounds_toArray, List.set_cons_zero, List.set_cons_succ]
        refine wpAnyH_ready (rs := [13]) (by kernel_rfl) (by simp) ?_
        refine AllReadyH.cons rfl (fun K hK => ?_) AllReadyH.nil
        simp only [List.getElem_toArray, List.getElem_cons_zero, List.getElem_cons_succ]
        go_simp
        refine hK.out _ _ ((Stay.refl g W9).set_ 11 _) (fun _ => ?_)
        clear hK K
        try simp only [Act.put, List.setIfInBounds_toArray, List.set_cons_zero, List.set_cons_succ]
        refine wpAnyH_done (by kernel_rfl) ?_ _
        clear k9 f9 hB9 hHeld hb9
        go_wp2_with fail
        go_ret
        exact HFin.out
end Go.Proofs.Ythedopnhhanknaa
namespace Go.Proofs.Ythedopnhhanknaa
open Go.RowKit Ex
set_option maxRecDepth 100000

theorem obj_cell {B : Nat} {w : World} {A : Option Addr} {l : List (Nat → Int)} (h : RdO B w A l) {i j : Nat} (hi : i < l.length) (hj : j < 18) : ∃ b off, A = some ⟨b, off, none⟩ ∧ b < B ∧ w.cell? ⟨b, off + i * 18 + j, none⟩ = some (.int .i64 ((l.getD i fun _ => 0) j)) := by
  obtain ⟨b, off, e, hb, hr⟩ := h i l[i] (List.getElem?_eq_getElem hi)
  refine ⟨b, off, e, hb, ?_⟩
  rw [getD_in _ hi]
  exact hr j _ (by rw [Array.getElem?_toList, arr_get .i64 18 _ hj])
set_option linter.unusedSimpArgs false in
set_option maxHeartbeats 0 in
theorem seto_code (s : StT) (O : SlT) (L : Nat → SlT) (g : Nat) (e : EvT) (w : World) (ha : StAt w g (stC O L s.pl s.gm)) (hx : ReadsX g w (stC O L s.pl s.gm) s O L) (hn : s.objs.length ≤ 1000) (hi : EvI e) (hea : 0 ≤ e.a) (heb : 0 ≤ e.b ∧ e.b ≤ 17) :
    Calls Try.prog 35 #[.pointer (some ⟨g, 0, none⟩), evV e] w (DP w g s (ap2 s e)) := by
  have hgl := ha.lt
  obtain ⟨A, n, c⟩ := O
  have c0 : w.cell? ⟨g, 0, none⟩ = some (.slice A n c) := (ha.cell 0).trans (stC_objs _ _ _ _)
  have hOn : n = s.objs.length := hx.now.on
  have HX := Lib.hid hx
  have HA := Lib.hid ha
  have HI := Lib.hid hi
  obtain ⟨i, hia⟩ : ∃ i : Nat, e.a = (i : Int) := ⟨e.a.toNat, by omega⟩
  obtain ⟨j, hjb⟩ : ∃ j : Nat, e.b = (j : Int) := ⟨e.b.toNat, by omega⟩
  have hj : j < 18 := by omega
  have HIA := Lib.hid hia
  have HJB := Lib.hid hjb
  clear ha hx hi hea heb
  go_enter Try.func35, Try.ntmps35
  go_upto_region 1 with fail
  obtain ⟨w1, hw1⟩ : ∃ w1, w1 = w.alloc (.cells (evC e) 31) := ⟨_, rfl⟩
  have hrow : EvB w1 w.heap.size e := by rw [hw1]; exact heap_alloc_new _ _
  have hb1 : Below w.heap.size w w1 := by rw [hw1]; exact (Below.refl _ _).alloc (Nat.le_refl _) _
  show Code.wp _ _ _ _ (w.alloc (.cells (evC e) 31))
  rw [← hw1]
  clear hw1
  have hg1 := hrow.lt
  obtain ⟨ge, hge⟩ : ∃ g, g = w.heap.size := ⟨_, rfl⟩
  rw [← hge] at hrow hg1 ⊢
  have hne : ge ≠ g := by omega
  have HGE := Lib.hid hge
  have k0 := (hb1.cell (p := ⟨g, 0, none⟩) (by simpa using hgl)).trans c0
  clear c0 hge
  obtain ⟨q0, q1, q2, q3, q4, q5⟩ := hrow.cells
  rw [hia] at q1
  rw [hjb] at q2
  clear hia hjb
  have hbl := fun W => below_any (i : Int) (n : Int) W
  obtain ⟨q, hq⟩ : ∃ q, q = (decide (0 ≤ (i : Int)) && decide ((i : Int) < (n : Int))) := ⟨_, rfl⟩
  rw [← hq] at hbl
  have HQ := Lib.hid hq
  clear hq
  have k0b : ∀ W, Below w1.heap.size w1 W → W.cell? ⟨g, 0, none⟩ = some (.slice A n c) := fun W hW => (hW.cell (by have := hb1.size; simp only; omega)).trans k0
  have q1b : ∀ W, Below w1.heap.size w1 W → W.cell? ⟨ge, 1, none⟩ = some (.int .i64 (i : Int)) := fun W hW => (hW.cell (by simpa using hg1)).trans q1
  have HN := Lib.hid hOn
  clear hOn
  refine region_below (by kernel_rfl) (fun hHeld => ?_)
  refine wpAnyH_take (i := 0) (v := ?_) rfl (by kernel_rfl) (by kernel_rfl) (by kernel_rfl) (fun _ _ _ h => h) (Or.inl ⟨by rfl, ?_⟩) hHeld ?_
  rotate_left
  · (intro w hSw; go_simp; (try with_reducible rfl))
  simp only [Act.put, List.getElem_toArray, List.getElem_cons_zero, List.getElem_cons_succ, List.setIfInBounds_toArray, List.set_cons_zero, List.set_cons_succ]
  refine wpAnyH_take (i := 1) (v := ?_) rfl (by kernel_rfl) (by kernel_rfl) (by kernel_rfl) (fun _ _ _ h => h) (Or.inl ⟨by rfl, ?_⟩) hHeld ?_
  rotate_left
  · (intro w hSw; go_simp; (try with_reducible rfl))
  simp only [Act.put, List.getElem_toArray, List.getElem_cons_zero, List.getElem_cons_succ, List.setIfInBounds_toArray, List.set_cons_zero, List.set_cons_succ]
  refine wpAnyH_take (i := 2) (v := ?_) rfl (by kernel_rfl) (by kernel_rfl) (by kernel_rfl) (fun _ _ _ h => h) (Or.inl ⟨by rfl, ?_⟩) hHeld ?_
  rotate_left
  · (intro w hSw; go_simp; (try with_reducible rfl))
  simp only [Act.put, List.getElem_toArray, List.getElem_cons_zero, List.getElem_cons_succ, List.setIfInBounds_toArray, List.set_cons_zero, List.set_cons_succ]
  refine wpAnyH_take (i := 3) (v := ?_) rfl (by kernel_rfl) (by kernel_rfl) (by kernel_rfl) (fun _ _ _ h => h) (Or.inl ⟨by rfl, ?_⟩) hHeld ?_
  rotate_left
  · (intro w hSw; go_simp; (try with_reducible rfl))
  simp only [Act.put, List.getElem_toArray, List.getElem_cons_zero, List.getElem_cons_succ, List.setIfInBounds_toArray, List.set_cons_zero, List.set_cons_succ]
  refine wpAnyH_take (i := 4) (v := ?_) rfl (by kernel_rfl) (by kernel_rfl) (by kernel_rfl) (fun _ _ _ h => h) (Or.inl ⟨by rfl, ?_⟩) hHeld ?_
  rotate_left
  · (intro w hSw; go_simp; (try with_reducible rfl))
  simp only [Act.put, List.getElem_toArray, List.getElem_cons_zero, List.getElem_cons_succ, List.setIfInBounds_toArray, List.set_cons_zero, List.set_cons_succ]
  refine wpAnyH_take (i := 5) (v := ?_) rfl (by kernel_rfl) (by kernel_rfl) (by kernel_rfl) (fun _ _ _ h => h) (Or.inl ⟨by rfl, ?_⟩) hHeld ?_
  rotate_left
  · (intro w hSw; go_simp; (try with_reducible rfl))
  simp only [Act.put, List.getElem_toArray, List.getElem_cons_zero, List.getElem_cons_succ, List.setIfInBounds_toArray, List.set_cons_zero, List.set_cons_succ]
  refine wpAnyH_take (i := 6) (v := ?_) rfl (by kernel_rfl) (by kernel_rfl) (by kernel_rfl) (fun _ _ _ h => h) (Or.inl ⟨by rfl, ?_⟩) hHeld ?_
  rotate_left
  · (intro w hSw; go_simp; (try with_reducible rfl))
  simp only [Act.put, List.getElem_toArray, List.getElem_cons_zero, List.getElem_cons_succ, List.setIfInBounds_toArray, List.set_cons_zero, List.set_cons_succ]
  refine wpAnyH_ready (rs := [7]) (by kernel_rfl) (by simp) ?_
  refine AllReadyH.cons rfl (fun K hK => ?_) AllReadyH.nil
  simp only [List.getElem_toArray, List.getElem_cons_zero, List.getElem_cons_succ]
  go_simp
  refine (hbl _).mono ?_
  rintro en W1 ⟨rfl, rfl⟩
  clear hbl
  go_wp2_with fail
  have hB7 := keepB (Below.refl _ _) hHeld
  refine hK.out _ _ hB7 (fun _ => ?_)
  clear hK K
  try simp only [Act.put, List.setIfInBounds_toArray, List.set_cons_zero, List.set_cons_succ]
  refine anyH_rebase hB7 (fun hHeld => ?_)
  refine wpAnyH_take (i := 8) (v := ?_) rfl (by kernel_rfl) (by kernel_rfl) (by kernel_rfl) (fun _ _ _ h => h) (Or.inl ⟨by rfl, ?_⟩) hHeld ?_
  rotate_left
  · (intro w hSw; go_simp; (try with_reducible rfl))
  simp only [Act.put, List.getElem_toArray, List.getElem_cons_zero, List.getElem_cons_succ, List.setIfInBounds_toArray, List.set_cons_zero, List.set_cons_succ]
  refine wpAnyH_done (by kernel_rfl) ?_ _
  clear k0b q1b
  have hbW : Below w.heap.size w w1.drew := hb1.drew
  have hrow : EvB w1.drew ge e := hrow
  have hg1 : ge < w1.drew.heap.size := hg1
  have k0 : w1.drew.cell? ⟨g, 0, none⟩ = some (.slice A n c) := k0
  have q1 : w1.drew.cell? ⟨ge, 1, none⟩ = some (.int .i64 (i : Int)) := q1
  have q2 : w1.drew.cell? ⟨ge, 2, none⟩ = some (.int .i64 (j : Int)) := q2
  clear q0 q3 q4 q5 hB7 hHeld hb1
  generalize w1.drew = W0 at hbW hrow hg1 k0 q1 q2 ⊢
  cases q
  · have HR := Lib.hid (show ap2 s e = (sT0, 4) from by
      have h1 := HQ.out
      have h2 := HN.out
      have h3 := HIA.out
      rw [eq_comm, Bool.and_eq_false_iff] at h1
      simp at h1
      exact if_pos (by omega))
    go_wp2_with fail
    go_ret
    rw [HR.out]
    exact DP.no (r := (sT0, 4)) (by decide) HA.out HX.out hbW
  have hin : i < n := by
    have h1 := HQ.out
    rw [eq_comm, Bool.and_eq_true] at h1
    simp at h1
    omega
  clear HQ
  go_upto_region 3 with fail
  obtain ⟨b, off, hA, hbB, hcell⟩ := obj_cell (HX.out.now.o) (i := i) (j := j) (by have := HN.out; omega) hj
  simp only at hA
  subst hA
  obtain ⟨x, hxx⟩ : ∃ x, x = (s.objs.getD i fun _ => 0) j := ⟨_, rfl⟩
  rw [← hxx] at hcell
  have HXX := Lib.hid hxx
  clear hxx
  have HCell := Lib.hid (fun W (hW : Below W0.heap.size W0 W) => ((keepB hW hbW).cell (p := ⟨b, off + i * 18 + j, none⟩) hbB).trans hcell)
  have r0 : ∀ W, Below W0.heap.size W0 W → W.cell? ⟨b, off + i * 18 + j, none⟩ = some (.int .i64 x) := fun W hW => HCell.out W hW
  have k0b : ∀ W, Below W0.heap.size W0 W → W.cell? ⟨g, 0, none⟩ = some (.slice (some ⟨b, off, none⟩) n c) := fun W hW => (hW.cell (by have := hbW.size; simp only; omega)).trans k0
  have q1b : ∀ W, Below W0.heap.size W0 W → W.cell? ⟨ge, 1, none⟩ = some (.int .i64 (i : Int)) := fun W hW => (hW.cell (by simpa using hg1)).trans q1
  have q2b : ∀ W, Below W0.heap.size W0 W → W.cell? ⟨ge, 2, none⟩ = some (.int .i64 (j : Int)) := fun W hW => (hW.cell (by simpa using hg1)).trans q2
  have g0 : (0 : Int) ≤ (i : Int) := by omega
  have g1 : (i : Int) < (n : Int) := by omega
  have g2 : (0 : Int) ≤ (j : Int) := by omega
  have g3 : (j : Int) < 18 := by omega
  refine region_below (by kernel_rfl) (fun hHeld => ?_)
  refine wpAnyH_take (i := 0) (v := ?_) rfl (by kernel_rfl) (by kernel_rfl) (by kernel_rfl) (fun _ _ _ h => h) (Or.inl ⟨by rfl, ?_⟩) hHeld ?_
  rotate_left
  · (intro w hSw; go_simp; (try with_reducible rfl))
  simp only [Act.put, List.getElem_toArray, List.getElem_cons_zero, List.getElem_cons_succ, List.setIfInBounds_toArray, List.set_cons_zero, List.set_cons_succ]
  refine wpAnyH_take (i := 1) (v := ?_) rfl (by kernel_rfl) (by kernel_rfl) (by kernel_rfl) (fun _ _ _ h => h) (Or.inl ⟨by rfl, ?_⟩) hHeld ?_
  rotate_left
  · (intro w hSw; go_simp; (try with_reducible rfl))
  simp only [Act.put, List.getElem_toArray, List.getElem_cons_zero, List.getElem_cons_succ, List.setIfInBounds_toArray, List.set_cons_zero, List.set_cons_succ]
  refine wpAnyH_take (i := 2) (v := ?_) rfl (by kernel_rfl) (by kernel_rfl) (by kernel_rfl) (fun _ _ _ h => h) (Or.inl ⟨by rfl, ?_⟩) hHeld ?_
  rotate_left
  · (intro w hSw; go_simp; (try with_reducible rfl))
  simp only [Act.put, List.getElem_toArray, List.getElem_cons_zero, List.getElem_cons_succ, List.setIfInBounds_toArray, List.set_cons_zero, List.set_cons_succ]
  refine wpAnyH_take (i := 3) (v := ?_) rfl (by kernel_rfl) (by kernel_rfl) (by kernel_rfl) (fun _ _ _ h => h) (Or.inl ⟨by rfl, ?_⟩) hHeld ?_
  rotate_left
  · (intro w hSw; go_simp; (try with_reducible rfl))
  simp only [Act.put, List.getElem_toArray, List.getElem_cons_zero, List.getElem_cons_succ, List.setIfInBounds_toArray, List.set_cons_zero, List.set_cons_succ]
  refine wpAnyH_take (i := 4) (v := ?_) rfl (by kernel_rfl) (by kernel_rfl) (by kernel_rfl) (fun _ _ _ h => h) (Or.inl ⟨by rfl, ?_⟩) hHeld ?_
  rotate_left
  · (intro w hSw; go_simp; (try with_reducible rfl))
  simp only [Act.put, List.getElem_toArray, List.getElem_cons_zero, List.getElem_cons_succ, List.setIfInBounds_toArray, List.set_cons_zero, List.set_cons_succ]
  refine wpAnyH_take (i := 5) (v := ?_) rfl (by kernel_rfl) (by kernel_rfl) (by kernel_rfl) (fun _ _ _ h => h) (Or.inl ⟨by rfl, ?_⟩) hHeld ?_
  rotate_left
  · (intro w hSw; go_simp; (try with_reducible rfl))
  simp only [Act.put, List.getElem_toArray, List.getElem_cons_zero, List.getElem_cons_succ, List.setIfInBounds_toArray, List.set_cons_zero, List.set_cons_succ]
  refine wpAnyH_take (i := 6) (v := ?_) rfl (by kernel_rfl) (by kernel_rfl) (by kernel_rfl) (fun _ _ _ h => h) (Or.inl ⟨by rfl, ?_⟩) hHeld ?_
  rotate_left
  · (intro w hSw; go_simp; (try with_reducible rfl))
  simp only [Act.put, List.getElem_toArray, List.getElem_cons_zero, List.getElem_cons_succ, List.setIfInBounds_toArray, List.set_cons_zero, List.set_cons_succ]
  refine wpAnyH_take (i := 7) (v := ?_) rfl (by kernel_rfl) (by kernel_rfl) (by kernel_rfl) (fun _ _ _ h => h) (Or.inl ⟨by rfl, ?_⟩) hHeld ?_
  rotate_left
  · (intro w hSw; go_simp; (try with_reducible rfl))
  simp only [Act.put, List.getElem_toArray, List.getElem_cons_zero, List.getElem_cons_succ, List.setIfInBounds_toArray, List.set_cons_zero, List.set_cons_succ]
  refine wpAnyH_take (i := 8) (v := ?_) rfl (by kernel_rfl) (by kernel_rfl) (by kernel_rfl) (fun _ _ _ h => h) (Or.inl ⟨by rfl, ?_⟩) hHeld ?_
  rotate_left
  · (intro w hSw; go_simp; (try with_reducible rfl))
  simp only [Act.put, List.getElem_toArray, List.getElem_cons_zero, List.getElem_cons_succ, List.setIfInBounds_toArray, List.set_cons_zero, List.set_cons_succ]
  refine wpAnyH_take (i := 9) (v := ?_) rfl (by kernel_rfl) (by kernel_rfl) (by kernel_rfl) (fun _ _ _ h => h) (Or.inl ⟨by rfl, ?_⟩) hHeld ?_
  rotate_left
  · (intro w hSw; go_simp; (try with_reducible rfl))
  simp only [Act.put, List.getElem_toArray, List.getElem_cons_zero, List.getElem_cons_succ, List.setIfInBounds_toArray, List.set_cons_zero, List.set_cons_succ]
  refine wpAnyH_take (i := 10) (v := ?_) rfl (by kernel_rfl) (by kernel_rfl) (by kernel_rfl) (fun _ _ _ h => h) (Or.inl ⟨by rfl, ?_⟩) hHeld ?_
  rotate_left
  · (intro w hSw; go_simp; (try with_reducible rfl))
  simp only [Act.put, List.getElem_toArray, List.getElem_cons_zero, List.getElem_cons_succ, List.setIfInBounds_toArray, List.set_cons_zero, List.set_cons_succ]
  clear r0 k0b q1b q2b hcell
  have hB0 := hHeld
  have hg1 : ge < W0.drew.heap.size := hg1
  have hrow : EvB W0.drew ge e := hrow
  generalize W0.drew = W1 at hHeld hB0 hg1 hrow ⊢
  refine wpAnyH_ready (rs := [11]) (by kernel_rfl) (by simp) ?_
  refine AllReadyH.cons rfl (fun K hK => ?_) AllReadyH.nil
  simp only [List.getElem_toArray, List.getElem_cons_zero, List.getElem_cons_succ]
  go_simp
  obtain ⟨W2, hW2⟩ : ∃ W2, W2 = W1.alloc (.cells #[.int .i64 0] 3) := ⟨_, rfl⟩
  obtain ⟨g5, hg5⟩ : ∃ g5, g5 = W1.heap.size := ⟨_, rfl⟩
  have hn5 : W2.heap[g5]? = some (.cells #[.int .i64 0] 3 (0, 0)) := by rw [hW2, hg5]; exact heap_alloc_new _ _
  have hb2 : Below W1.heap.size W1 W2 := by rw [hW2]; exact below_alloc _
  have hW05 : W0.heap.size ≤ g5 := by rw [hg5]; exact hB0.size
  rw [← hW2, ← hg5]
  clear hW2 hg5
  have hB2 := keepB hb2 hB0
  refine hK.out _ _ hB2 (fun _ => ?_)
  clear hK K
  try simp only [Act.put, List.setIfInBounds_toArray, List.set_cons_zero, List.set_cons_succ]
  have c12 := cell_of_row W2 g5 0 _ _ _ hn5
  have f12 := frozen_of_row W2 g5 0 _ _ hn5
  simp at c12
  refine wpAnyH_ready (rs := [12]) (by kernel_rfl) (by simp) ?_
  refine AllReadyH.cons rfl (fun K hK => ?_) AllReadyH.nil
  simp only [List.getElem_toArray, List.getElem_cons_zero, List.getElem_cons_succ]
  go_simp
  have hB3 : Below W0.heap.size W0 (W2.setCell ⟨g5, 0, none⟩ (.int .i64 x)) := hB2.setCell (p := ⟨g5, 0, none⟩) hW05 _
  have hn6 : (W2.setCell ⟨g5, 0, none⟩ (.int .i64 x)).heap[g5]? = some (.cells #[.int .i64 x] 3 (0, 0)) := by rw [heap_setCell_same W2 g5 0 _ _ _ hn5]; rfl
  have hrow3 : EvB (W2.setCell ⟨g5, 0, none⟩ (.int .i64 x)) ge e := EvB.far (hrow.keep hb2) (by have := hB0.size; have := HGE.out; have := hbW.size; omega) 0 _
  refine hK.out _ _ hB3 (fun _ => ?_)
  clear hK K
  try simp only [Act.put, List.setIfInBounds_toArray, List.set_cons_zero, List.set_cons_succ]
  refine wpAnyH_done (by kernel_rfl) ?_ _
  obtain ⟨W3, hW3⟩ : ∃ W3, W3 = W2.setCell ⟨g5, 0, none⟩ (.int .i64 x) := ⟨_, rfl⟩
  rw [← hW3] at hB3 hn6 hrow3 ⊢
  clear hW3 c12 f12 hn5 hB2 hb2 hHeld hB0 hrow
  have hwW := keepB hB3 hbW
  have c13 := cell_of_row W3 g5 0 _ _ _ hn6
  have f13 := frozen_of_row W3 g5 0 _ _ hn6
  have hg53 : g5 < W3.heap.size := (Array.getElem?_eq_some_iff.1 hn6).1
  have hsc := set_code g5 0 x e W3 c13 f13 hg53
  have hsE := ev_size e
  obtain ⟨es, hes⟩ : ∃ es, es = evC e := ⟨_, rfl⟩
  have HES := Lib.hid hes
  rw [show evV e = .agg es by rw [hes]; rfl] at hsc
  have hrow3' : W3.heap[ge]? = some (.cells es 31 (0, 0)) := by rw [hes]; exact hrow3
  rw [← hes] at hsE
  clear hes c13 f13
  go_upto_region 4 with fail
  go_wp2_with (refine wpList_load_row rfl 31 (.tmp 3) rfl ge rfl 31 _ (0, 0) _ hrow3' Try.underlying31 rfl hsE ?_)
  refine hsc.mono ?_
  rintro en W5 ⟨W4, hb4, (⟨hxc, rfl, rfl⟩ | ⟨hxc, rfl, rfl⟩)⟩
  · clear hsc
    have hn7 : W4.heap[g5]? = some (.cells #[.int .i64 x] 3 (0, 0)) := (hb4.block g5 hg53).trans hn6
    have hgW : w.heap.size ≤ g5 := Nat.le_trans hbW.size hW05
    have hb5 : Below w.heap.size w (W4.setCell ⟨g5, 0, none⟩ (.int .i64 e.d)) := (keepB hb4 hwW).setCell (p := ⟨g5, 0, none⟩) hgW _
    have hrow5 : EvB (W4.setCell ⟨g5, 0, none⟩ (.int .i64 e.d)) ge e := (hrow3.keep hb4).far (by have := HGE.out; have := hbW.size; omega) 0 _
    have hn8 : (W4.setCell ⟨g5, 0, none⟩ (.int .i64 e.d)).heap[g5]? = some (.cells #[.int .i64 e.d] 3 (0, 0)) := by rw [heap_setCell_same W4 g5 0 _ _ _ hn7]; rfl
    have k8 := cell_of_row _ g5 0 _ _ _ hn8
    simp only [List.getElem?_toArray, List.getElem?_cons_zero] at k8
    obtain ⟨_, p1, p2, _, _, _⟩ := hrow5.cells
    rw [HIA.out] at p1
    rw [HJB.out] at p2
    have HR := Lib.hid (show ap2 s e = (⟨setO s.objs i j e.d, s.lists, s.pl, s.gm⟩, 0) from by
      have h2 := HN.out
      have h3 := HIA.out
      have h4 := HJB.out
      have h5 := HXX.out
      unfold ap2
      rw [if_neg (by omega), if_neg (by rw [h3, h4, Int.toNat_natCast, Int.toNat_natCast, ← h5]; exact fun h => h hxc), h3, h4, Int.toNat_natCast, Int.toNat_natCast])
    generalize W4.setCell ⟨g5, 0, none⟩ (.int .i64 e.d) = W5 at hb5 hrow5 k8 p1 p2 ⊢
    have hpt := put_code s ⟨some ⟨b, off, none⟩, n, c⟩ L g i j e.d W5 (HA.out.keep hb5) (HX.out.stay (Stay.of hb5)) (by have := HN.out; omega) hj (by omega) HI.out.d
    clear hn7 hn8 hrow5 hrow3 hrow3' hxc
    go_wp2_with fail
    refine hpt.mono ?_
    rintro en W6 ⟨O6, rfl, ha6, hx6, hs6⟩
    clear hpt
    go_wp2_with fail
    go_ret
    rw [HR.out]
    exact DP.yes (O := O6) (L := L) (t := ⟨setO s.objs i j e.d, s.lists, s.pl, s.gm⟩) ha6 hx6 ((Stay.of hb5).trans hs6)
  · clear hsc
    have HR := Lib.hid (show ap2 s e = (sT0, 20) from by
      have h2 := HN.out
      have h3 := HIA.out
      have h4 := HJB.out
      have h5 := HXX.out
      unfold ap2
      rw [if_neg (by omega), if_pos (by rw [h3, h4, Int.toNat_natCast, Int.toNat_natCast, ← h5]; exact hxc)])
    clear hxc
    rw [errV_err (show (20 : Int) ≠ 0 by decide)]
    go_wp2_with fail
    go_ret
    rw [HR.out]
    exact DP.no (r := (sT0, 20)) (by decide) HA.out HX.out (keepB hb4 hwW)
end Go.Proofs.Ythedopnhhanknaa
namespace Go.Proofs.Ythedopnhhanknaa
open Go.RowKit Ex
set_option maxRecDepth 100000
theorem RdO.take {B : Nat} {w : World} {A : Option Addr} {l : List (Nat → Int)} (h : RdO B w A l) (i : Nat) : RdO B w A (l.take i) := fun j o hj => h j o (by
  rw [List.getElem?_take] at hj
  split at hj
  · exact hj
  · cases hj)
theorem cutO_to {A : Option Addr} {n c i : Nat} (hi : i ≤ n) (hc : n ≤ c) (W : World) : (Instr.slice 22 (.slice A n c) none (some (.int .i64 ((i : Nat) : Int))) none).run Try.prog W = .ok (.slice A i c) W := by
  rw [run_slice_h W 22 A n c (by kernel_rfl) .i64 (i : Int) (by omega) (by omega), show (sizeOf (Try.prog.elem 22)).run Try.prog W = .ok 18 W by kernel_rfl]
  simp only [Result.andThen_ok, sliced, Int.toNat_natCast, Nat.sub_zero, Nat.zero_mul]
  split
  · rfl
  · cases A with
    | none => rfl
    | some a => rfl
/-- An object is taken away: why not. -/
theorem ap5_bad {s : StT} {e : EvT} (h : s.objs.length = 0 ∨ topB s 10 = false ∨ topX s 10 ≠ (s.objs.length : Int) - 1 ∨ sameI 18 (s.objs.getD (s.objs.length - 1) fun _ => 0) (madeO e.a e.b e.c) = false) : ap5 s e = (sT0, 20) := by
  refine if_pos ?_
  have hB : topB s 10 = decide (0 < (s.lists 10).length) := rfl
  rcases h with h | h | h | h
  · exact .inl h
  · rw [hB, decide_eq_false_iff_not] at h
    exact .inr (.inl (by omega))
  · by_cases h0 : (s.lists 10).length = 0
    · exact .inr (.inl h0)
    · refine .inr (.inr (.inl ?_))
      have hb : topB s 10 = true := by rw [hB]; simp; omega
      rw [topX, if_pos hb] at h
      exact h
  · exact .inr (.inr (.inr h))
theorem ap5_good {s : StT} {e : EvT} (h0 : s.objs.length ≠ 0) (h1 : topB s 10 = true) (h2 : topX s 10 = (s.objs.length : Int) - 1) (h3 : sameI 18 (s.objs.getD (s.objs.length - 1) fun _ => 0) (madeO e.a e.b e.c) = true) :
    (s.lists 10).length ≠ 0 ∧ ap5 s e = (⟨s.objs.take (s.objs.length - 1), updL s.lists 10 ((s.lists 10).take ((s.lists 10).length - 1)), s.pl, s.gm⟩, 0) := by
  have hB : topB s 10 = decide (0 < (s.lists 10).length) := rfl
  have h4 := h1
  rw [hB, decide_eq_true_iff] at h4
  refine ⟨by omega, if_neg ?_⟩
  rw [topX, if_pos h1] at h2
  rintro (h | h | h | h)
  · exact h0 h
  · omega
  · exact h h2
  · rw [h] at h3; cases h3
set_option linter.unusedSimpArgs false in
set_option maxHeartbeats 0 in
theorem unmake_code (s : StT) (O : SlT) (L : Nat → SlT) (g : Nat) (e : EvT) (w : World) (ha : StAt w g (stC O L s.pl s.gm)) (hx : ReadsX g w (stC O L s.pl s.gm) s O L) (hn : s.objs.length ≤ 1000) (hll : ∀ z < 11, (s.lists z).length ≤ 1000) (hi : EvI e) :
    Calls Try.prog 33 #[.pointer (some ⟨g, 0, none⟩), evV e] w (DP w g s (ap5 s e)) := by
  have hgl := ha.lt
  obtain ⟨A, n, c⟩ := O
  have c0 : w.cell? ⟨g, 0, none⟩ = some (.slice A n c) := (ha.cell 0).trans (stC_objs _ _ _ _)
  have hOn : n = s.objs.length := hx.now.on
  have HX := Lib.hid hx
  have HA := Lib.hid ha
  have HI := Lib.hid hi
  have HLL := Lib.hid hll
  have HN := Lib.hid hOn
  have hn1 : n ≤ 1000 := by omega
  clear ha hx hi hll hn hOn
  go_enter Try.func33, Try.ntmps33
  go_upto_region 1 with fail
  obtain ⟨w1, hw1⟩ : ∃ w1, w1 = w.alloc (.cells (evC e) 31) := ⟨_, rfl⟩
  have hrow : EvB w1 w.heap.size e := by rw [hw1]; exact heap_alloc_new _ _
  have hb1 : Below w.heap.size w w1 := by rw [hw1]; exact (Below.refl _ _).alloc (Nat.le_refl _) _
  show Code.wp _ _ _ _ (w.alloc (.cells (evC e) 31))
  rw [← hw1]
  clear hw1
  have hg1 := hrow.lt
  obtain ⟨ge, hge⟩ : ∃ g, g = w.heap.size := ⟨_, rfl⟩
  rw [← hge] at hrow hg1 ⊢
  have hne : ge ≠ g := by omega
  have HGE := Lib.hid hge
  have k0 := (hb1.cell (p := ⟨g, 0, none⟩) (by simpa using hgl)).trans c0
  clear c0 hge
  obtain ⟨p, hp⟩ : ∃ p : Int, p = (n : Int) - 1 := ⟨_, rfl⟩
  have ew : IntKind.i64.wrap ((n : Int) - 1) = p := by rw [i64_in (by omega) (by omega), hp]
  have HP := Lib.hid hp
  clear hp
  go_upto_region 2 with fail
  clear ew k0
  have hs1 := HA.out.keep hb1
  have hx1 := (HX.out w1 (Stay.of hb1))
  obtain ⟨cs, hcs⟩ : ∃ cs, cs = stC ⟨A, n, c⟩ L s.pl s.gm := ⟨_, rfl⟩
  have hsz : (Try.prog.info? 29).map (·.size) = some cs.size := by rw [hcs, stC_size]; exact size37
  rw [← hcs] at hs1 hx1
  have htop := top_code s _ L cs 10 w1 _ hx1 (Nat.le_refl _) (fun z hz => by have := HLL.out z hz; omega)
  obtain ⟨tx, htx⟩ : ∃ tx, tx = topX s 10 := ⟨_, rfl⟩
  obtain ⟨tb, htb⟩ : ∃ tb, tb = topB s 10 := ⟨_, rfl⟩
  rw [← htx, ← htb] at htop
  have HTX := Lib.hid htx
  have HTB := Lib.hid htb
  clear hx1 htx htb hcs
  unfold StAt at hs1
  go_wp2_with (refine wpList_load_row rfl 29 (.tmp 17) rfl g rfl 29 _ (0, 0) _ hs1 Try.underlying29 rfl hsz ?_)
  refine htop.mono ?_
  rintro en w2 ⟨rfl, hb2⟩
  clear htop hs1 hsz
  have hrow2 := hrow.keep hb2
  have hbw2 := keepB hb2 hb1
  have hg2 := hrow2.lt
  clear hrow hb1 hb2 hg1
  go_upto_region 3 with fail
  have k2 := (hbw2.cell (p := ⟨g, 0, none⟩) (by simpa using hgl)).trans ((HA.out.cell 0).trans (stC_objs ⟨A, n, c⟩ _ _ _))
  simp only [SlT.v] at k2
  by_cases hn0 : n = 0
  · have HR := Lib.hid (show ap5 s e = (sT0, 20) from ap5_bad (.inl (by rw [← HN.out]; exact hn0)))
    have d0 : decide (p < 0) = true := decide_eq_true (by have := HP.out; omega)
    clear hn0
    refine region_below (by kernel_rfl) (fun hHeld => ?_)
    refine wpAnyH_take (i := 0) (v := ?_) rfl (by kernel_rfl) (by kernel_rfl) (by kernel_rfl) (fun _ _ _ h => h) (Or.inl ⟨by rfl, ?_⟩) hHeld ?_
    rotate_left
    · (intro w hSw; go_simp; (try with_reducible rfl))
    simp only [Act.put, List.getElem_toArray, List.getElem_cons_zero, List.getElem_cons_succ, List.setIfInBounds_toArray, List.set_cons_zero, List.set_cons_succ]
    refine wpAnyH_take (i := 1) (v := ?_) rfl (by kernel_rfl) (by kernel_rfl) (by kernel_rfl) (fun _ _ _ h => h) (Or.inl ⟨by rfl, ?_⟩) hHeld ?_
    rotate_left
    · (intro w hSw; go_simp; (try with_reducible rfl))
    simp only [Act.put, List.getElem_toArray, List.getElem_cons_zero, List.getElem_cons_succ, List.setIfInBounds_toArray, List.set_cons_zero, List.set_cons_succ]
    refine wpAnyH_take (i := 2) (v := ?_) rfl (by kernel_rfl) (by kernel_rfl) (by kernel_rfl) (fun _ _ _ h => h) (Or.inl ⟨by rfl, ?_⟩) hHeld ?_
    rotate_left
    · (intro w hSw; go_simp; (try with_reducible rfl))
    simp only [Act.put, List.getElem_toArray, List.getElem_cons_zero, List.getElem_cons_succ, List.setIfInBounds_toArray, List.set_cons_zero, List.set_cons_succ]
    refine wpAnyH_take (i := 3) (v := undef) rfl (by kernel_rfl) (by kernel_rfl) (by kernel_rfl) (fun _ _ _ h => h) (Or.inr ⟨by rfl, rfl⟩) hHeld ?_
    simp only [Act.put, List.getElem_toArray, List.getElem_cons_zero, List.getElem_cons_succ, List.setIfInBounds_toArray, List.set_cons_zero, List.set_cons_succ]
    refine wpAnyH_take (i := 4) (v := undef) rfl (by kernel_rfl) (by kernel_rfl) (by kernel_rfl) (fun _ _ _ h => h) (Or.inr ⟨by rfl, rfl⟩) hHeld ?_
    simp only [Act.put, List.getElem_toArray, List.getElem_cons_zero, List.getElem_cons_succ, List.setIfInBounds_toArray, List.set_cons_zero, List.set_cons_succ]
    refine wpAnyH_take (i := 5) (v := undef) rfl (by kernel_rfl) (by kernel_rfl) (by kernel_rfl) (fun _ _ _ h => h) (Or.inr ⟨by rfl, rfl⟩) hHeld ?_
    simp only [Act.put, List.getElem_toArray, List.getElem_cons_zero, List.getElem_cons_succ, List.setIfInBounds_toArray, List.set_cons_zero, List.set_cons_succ]
    refine wpAnyH_take (i := 6) (v := undef) rfl (by kernel_rfl) (by kernel_rfl) (by kernel_rfl) (fun _ _ _ h => h) (Or.inr ⟨by rfl, rfl⟩) hHeld ?_
    simp only [Act.put, List.getElem_toArray, List.getElem_cons_zero, List.getElem_cons_succ, List.setIfInBounds_toArray, List.set_cons_zero, List.set_cons_succ]
    refine wpAnyH_take (i := 7) (v := undef) rfl (by kernel_rfl) (by kernel_rfl) (by kernel_rfl) (fun _ _ _ h => h) (Or.inr ⟨by rfl, rfl⟩) hHeld ?_
    simp only [Act.put, List.getElem_toArray, List.getElem_cons_zero, List.getElem_cons_succ, List.setIfInBounds_toArray, List.set_cons_zero, List.set_cons_succ]
    refine wpAnyH_take (i := 8) (v := undef) rfl (by kernel_rfl) (by kernel_rfl) (by kernel_rfl) (fun _ _ _ h => h) (Or.inr ⟨by rfl, rfl⟩) hHeld ?_
    simp only [Act.put, List.getElem_toArray, List.getElem_cons_zero, List.getElem_cons_succ, List.setIfInBounds_toArray, List.set_cons_zero, List.set_cons_succ]
    refine wpAnyH_take (i := 9) (v := undef) rfl (by kernel_rfl) (by kernel_rfl) (by kernel_rfl) (fun _ _ _ h => h) (Or.inr ⟨by rfl, rfl⟩) hHeld ?_
    simp only [Act.put, List.getElem_toArray, List.getElem_cons_zero, List.getElem_cons_succ, List.setIfInBounds_toArray, List.set_cons_zero, List.set_cons_succ]
    refine wpAnyH_take (i := 10) (v := undef) rfl (by kernel_rfl) (by kernel_rfl) (by kernel_rfl) (fun _ _ _ h => h) (Or.inr ⟨by rfl, rfl⟩) hHeld ?_
    simp only [Act.put, List.getElem_toArray, List.getElem_cons_zero, List.getElem_cons_succ, List.setIfInBounds_toArray, List.set_cons_zero, List.set_cons_succ]
    refine wpAnyH_take (i := 11) (v := undef) rfl (by kernel_rfl) (by kernel_rfl) (by kernel_rfl) (fun _ _ _ h => h) (Or.inr ⟨by rfl, rfl⟩) hHeld ?_
    simp only [Act.put, List.getElem_toArray, List.getElem_cons_zero, List.getElem_cons_succ, List.setIfInBounds_toArray, List.set_cons_zero, List.set_cons_succ]
    refine wpAnyH_take (i := 12) (v := undef) rfl (by kernel_rfl) (by kernel_rfl) (by kernel_rfl) (fun _ _ _ h => h) (Or.inr ⟨by rfl, rfl⟩) hHeld ?_
    simp only [Act.put, List.getElem_toArray, List.getElem_cons_zero, List.getElem_cons_succ, List.setIfInBounds_toArray, List.set_cons_zero, List.set_cons_succ]
    refine wpAnyH_take (i := 13) (v := ?_) rfl (by kernel_rfl) (by kernel_rfl) (by kernel_rfl) (fun _ _ _ h => h) (Or.inl ⟨by rfl, ?_⟩) hHeld ?_
    rotate_left
    · (intro w hSw; go_simp; (try with_reducible rfl))
    simp only [Act.put, List.getElem_toArray, List.getElem_cons_zero, List.getElem_cons_succ, List.setIfInBounds_toArray, List.set_cons_zero, List.set_cons_succ]
    refine wpAnyH_take (i := 14) (v := ?_) rfl (by kernel_rfl) (by kernel_rfl) (by kernel_rfl) (fun _ _ _ h => h) (Or.inl ⟨by rfl, ?_⟩) hHeld ?_
    rotate_left
    · (intro w hSw; go_simp; (try with_reducible rfl))
    simp only [Act.put, List.getElem_toArray, List.getElem_cons_zero, List.getElem_cons_succ, List.setIfInBounds_toArray, List.set_cons_zero, List.set_cons_succ]
    refine wpAnyH_take (i := 15) (v := undef) rfl (by kernel_rfl) (by kernel_rfl) (by kernel_rfl) (fun _ _ _ h => h) (Or.inr ⟨by rfl, rfl⟩) hHeld ?_
    simp only [Act.put, List.getElem_toArray, List.getElem_cons_zero, List.getElem_cons_succ, List.setIfInBounds_toArray, List.set_cons_zero, List.set_cons_succ]
    refine wpAnyH_take (i := 16) (v := undef) rfl (by kernel_rfl) (by kernel_rfl) (by kernel_rfl) (fun _ _ _ h => h) (Or.inr ⟨by rfl, rfl⟩) hHeld ?_
    simp only [Act.put, List.getElem_toArray, List.getElem_cons_zero, List.getElem_cons_succ, List.setIfInBounds_toArray, List.set_cons_zero, List.set_cons_succ]
    refine wpAnyH_take (i := 17) (v := ?_) rfl (by kernel_rfl) (by kernel_rfl) (by kernel_rfl) (fun _ _ _ h => h) (Or.inl ⟨by rfl, ?_⟩) hHeld ?_
    rotate_left
    · (intro w hSw; go_simp; (try with_reducible rfl))
    simp only [Act.put, List.getElem_toArray, List.getElem_cons_zero, List.getElem_cons_succ, List.setIfInBounds_toArray, List.set_cons_zero, List.set_cons_succ]
    refine wpAnyH_take (i := 18) (v := ?_) rfl (by kernel_rfl) (by kernel_rfl) (by kernel_rfl) (fun _ _ _ h => h) (Or.inl ⟨by rfl, ?_⟩) hHeld ?_
    rotate_left
    · (intro w hSw; go_simp; (try with_reducible rfl))
    simp only [Act.put, List.getElem_toArray, List.getElem_cons_zero, List.getElem_cons_succ, List.setIfInBounds_toArray, List.set_cons_zero, List.set_cons_succ]
    refine wpAnyH_take (i := 19) (v := undef) rfl (by kernel_rfl) (by kernel_rfl) (by kernel_rfl) (fun _ _ _ h => h) (Or.inr ⟨by rfl, rfl⟩) hHeld ?_
    simp only [Act.put, List.getElem_toArray, List.getElem_cons_zero, List.getElem_cons_succ, List.setIfInBounds_toArray, List.set_cons_zero, List.set_cons_succ]
    refine wpAnyH_take (i := 20) (v := undef) rfl (by kernel_rfl) (by kernel_rfl) (by kernel_rfl) (fun _ _ _ h => h) (Or.inr ⟨by rfl, rfl⟩) hHeld ?_
    simp only [Act.put, List.getElem_toArray, List.getElem_cons_zero, List.getElem_cons_succ, List.setIfInBounds_toArray, List.set_cons_zero, List.set_cons_succ]
    refine wpAnyH_take (i := 21) (v := undef) rfl (by kernel_rfl) (by kernel_rfl) (by kernel_rfl) (fun _ _ _ h => h) (Or.inr ⟨by rfl, rfl⟩) hHeld ?_
    simp only [Act.put, List.getElem_toArray, List.getElem_cons_zero, List.getElem_cons_succ, List.setIfInBounds_toArray, List.set_cons_zero, List.set_cons_succ]
    refine wpAnyH_take (i := 22) (v := ?_) rfl (by kernel_rfl) (by kernel_rfl) (by kernel_rfl) (fun _ _ _ h => h) (Or.inl ⟨by rfl, ?_⟩) hHeld ?_
    rotate_left
    · (intro w hSw; go_simp; (try with_reducible rfl))
    simp only [Act.put, List.getElem_toArray, List.getElem_cons_zero, List.getElem_cons_succ, List.setIfInBounds_toArray, List.set_cons_zero, List.set_cons_succ]
    refine wpAnyH_done (by kernel_rfl) ?_ _
    clear hHeld
    go_wp2_with fail
    go_ret
    rw [HR.out]
    exact DP.no (r := (sT0, 20)) (by decide) HA.out HX.out hbw2.drew
  obtain ⟨m, hm⟩ : ∃ m, n = m + 1 := ⟨n - 1, by omega⟩
  have HM := Lib.hid hm
  have hpm : p = (m : Int) := by have := HP.out; omega
  subst hpm
  have d0 : decide ((m : Int) < 0) = false := decide_eq_false (by omega)
  have g0 : (0 : Int) ≤ (m : Int) := by omega
  have g1 : (m : Int) < (n : Int) := by omega
  have hmo : m < s.objs.length := by have := HN.out; omega
  clear hm hn0 HP
  obtain ⟨b, off, hA, hbB, hra⟩ := HX.out.now.o.at_ hmo
  simp only at hA
  subst hA
  obtain ⟨o, ho⟩ : ∃ o, o = s.objs[m] := ⟨_, rfl⟩
  rw [← ho] at hra
  have HO := Lib.hid (show (s.objs.getD (s.objs.length - 1) fun _ => 0) = o by rw [show s.objs.length - 1 = m by have := HN.out; have := HM.out; omega, getD_in _ hmo, ho])
  clear ho
  obtain ⟨es, hes⟩ : ∃ es, es = evC e := ⟨_, rfl⟩
  have HES := Lib.hid hes
  clear hes
  have hmd := fun W => made_code e W
  rw [show evV e = .agg es by rw [HES.out]; rfl] at hmd
  obtain ⟨o2, ho2⟩ : ∃ o2, o2 = madeO e.a e.b e.c := ⟨_, rfl⟩
  rw [← ho2] at hmd
  obtain ⟨ns, hns⟩ : ∃ ns, ns = !sameI 18 o o2 := ⟨_, rfl⟩
  have hneq : ∀ W, (binOp .neq 61 (.agg (arr .i64 18 o)) (.agg (arr .i64 18 o2))).run Try.prog W = .ok (.bool ns) W := fun W => by rw [hns]; exact neq_obj _ _ W
  have HNs := Lib.hid (show ns = !sameI 18 (s.objs.getD (s.objs.length - 1) fun _ => 0) (madeO e.a e.b e.c) by rw [HO.out, ← ho2]; exact hns)
  clear hns ho2 HO
  have HRa := Lib.hid (fun W (hW : Below w2.heap.size w2 W) => range_below (keepB hW hbw2) hbB hra)
  clear hra
  have k2b : ∀ W, Below w2.heap.size w2 W → W.cell? ⟨g, 0, none⟩ = some (.slice (some ⟨b, off, none⟩) n c) := fun W hW => (hW.cell (by have := hbw2.size; simp only; omega)).trans k2
  refine region_below (by kernel_rfl) (fun hHeld => ?_)
  refine wpAnyH_take (i := 0) (v := ?_) rfl (by kernel_rfl) (by kernel_rfl) (by kernel_rfl) (fun _ _ _ h => h) (Or.inl ⟨by rfl, ?_⟩) hHeld ?_
  rotate_left
  · (intro w hSw; go_simp; (try with_reducible rfl))
  simp only [Act.put, List.getElem_toArray, List.getElem_cons_zero, List.getElem_cons_succ, List.setIfInBounds_toArray, List.set_cons_zero, List.set_cons_succ]
  refine wpAnyH_take (i := 1) (v := ?_) rfl (by kernel_rfl) (by kernel_rfl) (by kernel_rfl) (fun _ _ _ h => h) (Or.inl ⟨by rfl, ?_⟩) hHeld ?_
  rotate_left
  · (intro w hSw; go_simp; (try with_reducible rfl))
  simp only [Act.put, List.getElem_toArray, List.getElem_cons_zero, List.getElem_cons_succ, List.setIfInBounds_toArray, List.set_cons_zero, List.set_cons_succ]
  refine wpAnyH_take (i := 2) (v := ?_) rfl (by kernel_rfl) (by kernel_rfl) (by kernel_rfl) (fun _ _ _ h => h) (Or.inl ⟨by rfl, ?_⟩) hHeld ?_
  rotate_left
  · (intro w hSw; go_simp; (try with_reducible rfl))
  simp only [Act.put, List.getElem_toArray, List.getElem_cons_zero, List.getElem_cons_succ, List.setIfInBounds_toArray, List.set_cons_zero, List.set_cons_succ]
  refine wpAnyH_take (i := 3) (v := ?_) rfl (by kernel_rfl) (by kernel_rfl) (by kernel_rfl) (fun _ _ _ h => h) (Or.inl ⟨by rfl, ?_⟩) hHeld ?_
  rotate_left
  · (intro w hSw; go_simp; (try with_reducible rfl))
  simp only [Act.put, List.getElem_toArray, List.getElem_cons_zero, List.getElem_cons_succ, List.setIfInBounds_toArray, List.set_cons_zero, List.set_cons_succ]
  refine wpAnyH_take (i := 4) (v := ?_) rfl (by kernel_rfl) (by kernel_rfl) (by kernel_rfl) (fun _ _ _ h => h) (Or.inl ⟨by rfl, ?_⟩) hHeld ?_
  rotate_left
  · (intro w hSw; go_simp; (try with_reducible rfl))
  simp only [Act.put, List.getElem_toArray, List.getElem_cons_zero, List.getElem_cons_succ, List.setIfInBounds_toArray, List.set_cons_zero, List.set_cons_succ]
  refine wpAnyH_take (i := 5) (v := ?_) rfl (by kernel_rfl) (by kernel_rfl) (by kernel_rfl) (fun _ _ _ h => h) (Or.inl ⟨by rfl, ?_⟩) hHeld ?_
  rotate_left
  · (intro w hSw; go_simp; (try with_reducible rfl))
  simp only [Act.put, List.getElem_toArray, List.getElem_cons_zero, List.getElem_cons_succ, List.setIfInBounds_toArray, List.set_cons_zero, List.set_cons_succ]
  refine wpAnyH_take (i := 6) (v := ?_) rfl (by kernel_rfl) (by kernel_rfl) (by kernel_rfl) (fun _ _ _ h => h) (Or.inl ⟨by rfl, ?_⟩) hHeld ?_
  rotate_left
  · (intro w hSw; go_simp; (try with_reducible rfl))
  simp only [Act.put, List.getElem_toArray, List.getElem_cons_zero, List.getElem_cons_succ, List.setIfInBounds_toArray, List.set_cons_zero, List.set_cons_succ]
  refine wpAnyH_take (i := 7) (v := ?_) rfl (by kernel_rfl) (by kernel_rfl) (by kernel_rfl) (fun _ _ _ h => h) (Or.inl ⟨by rfl, ?_⟩) hHeld ?_
  rotate_left
  · (intro w hSw; go_simp; (try with_reducible rfl))
  simp only [Act.put, List.getElem_toArray, List.getElem_cons_zero, List.getElem_cons_succ, List.setIfInBounds_toArray, List.set_cons_zero, List.set_cons_succ]
  refine wpAnyH_take (i := 8) (v := ?_) rfl (by kernel_rfl) (by kernel_rfl) (by kernel_rfl) (fun _ _ _ h => h) (Or.inl ⟨by rfl, ?_⟩) hHeld ?_
  rotate_left
  · (intro w hSw; go_simp; (try with_reducible rfl))
  simp only [Act.put, List.getElem_toArray, List.getElem_cons_zero, List.getElem_cons_succ, List.setIfInBounds_toArray, List.set_cons_zero, List.set_cons_succ]
  refine wpAnyH_take (i := 9) (v := .agg (arr .i64 18 o)) rfl (by kernel_rfl) (by kernel_rfl) (by kernel_rfl) (fun _ _ _ h => h) (yields_obj (by rfl) (.tmp 30) rfl b (off + m * 18) rfl o (fun W hW => HRa.out W hW)) hHeld ?_
  simp only [Act.put, List.getElem_toArray, List.getElem_cons_zero, List.getElem_cons_succ, List.setIfInBounds_toArray, List.set_cons_zero, List.set_cons_succ]
  refine wpAnyH_take (i := 10) (v := .agg es) rfl (by kernel_rfl) (by kernel_rfl) (by kernel_rfl) (fun _ _ _ h => h) (yields_ev (by rfl) (.tmp 3) rfl ge rfl es (fun W hW => by rw [HES.out]; exact hrow2.keep hW) (by rw [HES.out]; exact ev_size e)) hHeld ?_
  simp only [Act.put, List.getElem_toArray, List.getElem_cons_zero, List.getElem_cons_succ, List.setIfInBounds_toArray, List.set_cons_zero, List.set_cons_succ]
  clear k2b
  refine wpAnyH_ready (rs := [11]) (by kernel_rfl) (by simp) ?_
  refine AllReadyH.cons rfl (fun K hK => ?_) AllReadyH.nil
  simp only [List.getElem_toArray, List.getElem_cons_zero, List.getElem_cons_succ]
  go_simp
  refine (hmd _).mono ?_
  rintro en w3 ⟨rfl, hb3⟩
  clear hmd
  go_wp2_with fail
  have hB3 := keepB hb3 hHeld
  refine hK.out _ _ hB3 (fun _ => ?_)
  clear hK K
  try simp only [Act.put, List.setIfInBounds_toArray, List.set_cons_zero, List.set_cons_succ]
  refine anyH_rebase hB3 (fun hHeld => ?_)
  have hbw3 : Below w.heap.size w w3 := keepB hb3 hbw2.drew
  have hrow3 : EvB w3 ge e := (show EvB w2.drew ge e from hrow2).keep hb3
  clear hrow2 hB3 hb3 hbw2 k2 HRa
  refine wpAnyH_take (i := 12) (v := ?_) rfl (by kernel_rfl) (by kernel_rfl) (by kernel_rfl) (fun _ _ _ h => h) (Or.inl ⟨by rfl, ?_⟩) hHeld ?_
  rotate_left
  · (intro w hSw; go_simp; (try with_reducible rfl))
  simp only [Act.put, List.getElem_toArray, List.getElem_cons_zero, List.getElem_cons_succ, List.setIfInBounds_toArray, List.set_cons_zero, List.set_cons_succ]
  refine wpAnyH_take (i := 13) (v := ?_) rfl (by kernel_rfl) (by kernel_rfl) (by kernel_rfl) (fun _ _ _ h => h) (Or.inl ⟨by rfl, ?_⟩) hHeld ?_
  rotate_left
  · (intro w hSw; go_simp; (try with_reducible rfl))
  simp only [Act.put, List.getElem_toArray, List.getElem_cons_zero, List.getElem_cons_succ, List.setIfInBounds_toArray, List.set_cons_zero, List.set_cons_succ]
  refine wpAnyH_take (i := 14) (v := ?_) rfl (by kernel_rfl) (by kernel_rfl) (by kernel_rfl) (fun _ _ _ h => h) (Or.inl ⟨by rfl, ?_⟩) hHeld ?_
  rotate_left
  · (intro w hSw; go_simp; (try with_reducible rfl))
  simp only [Act.put, List.getElem_toArray, List.getElem_cons_zero, List.getElem_cons_succ, List.setIfInBounds_toArray, List.set_cons_zero, List.set_cons_succ]
  cases ns
  case true =>
    have HR := Lib.hid (show ap5 s e = (sT0, 20) from ap5_bad (.inr (.inr (.inr (by
      have h := HNs.out
      cases h2 : sameI 18 (s.objs.getD (s.objs.length - 1) fun _ => 0) (madeO e.a e.b e.c)
      · rfl
      · rw [h2] at h; cases h)))))
    refine wpAnyH_take (i := 15) (v := undef) rfl (by kernel_rfl) (by kernel_rfl) (by kernel_rfl) (fun _ _ _ h => h) (Or.inr ⟨by rfl, rfl⟩) hHeld ?_
    simp only [Act.put, List.getElem_toArray, List.getElem_cons_zero, List.getElem_cons_succ, List.setIfInBounds_toArray, List.set_cons_zero, List.set_cons_succ]
    refine wpAnyH_take (i := 16) (v := undef) rfl (by kernel_rfl) (by kernel_rfl) (by kernel_rfl) (fun _ _ _ h => h) (Or.inr ⟨by rfl, rfl⟩) hHeld ?_
    simp only [Act.put, List.getElem_toArray, List.getElem_cons_zero, List.getElem_cons_succ, List.setIfInBounds_toArray, List.set_cons_zero, List.set_cons_succ]
    refine wpAnyH_take (i := 17) (v := ?_) rfl (by kernel_rfl) (by kernel_rfl) (by kernel_rfl) (fun _ _ _ h => h) (Or.inl ⟨by rfl, ?_⟩) hHeld ?_
    rotate_left
    · (intro w hSw; go_simp; (try with_reducible rfl))
    simp only [Act.put, List.getElem_toArray, List.getElem_cons_zero, List.getElem_cons_succ, List.setIfInBounds_toArray, List.set_cons_zero, List.set_cons_succ]
    refine wpAnyH_take (i := 18) (v := ?_) rfl (by kernel_rfl) (by kernel_rfl) (by kernel_rfl) (fun _ _ _ h => h) (Or.inl ⟨by rfl, ?_⟩) hHeld ?_
    rotate_left
    · (intro w hSw; go_simp; (try with_reducible rfl))
    simp only [Act.put, List.getElem_toArray, List.getElem_cons_zero, List.getElem_cons_succ, List.setIfInBounds_toArray, List.set_cons_zero, List.set_cons_succ]
    refine wpAnyH_take (i := 19) (v := undef) rfl (by kernel_rfl) (by kernel_rfl) (by kernel_rfl) (fun _ _ _ h => h) (Or.inr ⟨by rfl, rfl⟩) hHeld ?_
    simp only [Act.put, List.getElem_toArray, List.getElem_cons_zero, List.getElem_cons_succ, List.setIfInBounds_toArray, List.set_cons_zero, List.set_cons_succ]
    refine wpAnyH_take (i := 20) (v := undef) rfl (by kernel_rfl) (by kernel_rfl) (by kernel_rfl) (fun _ _ _ h => h) (Or.inr ⟨by rfl, rfl⟩) hHeld ?_
    simp only [Act.put, List.getElem_toArray, List.getElem_cons_zero, List.getElem_cons_succ, List.setIfInBounds_toArray, List.set_cons_zero, List.set_cons_succ]
    refine wpAnyH_take (i := 21) (v := undef) rfl (by kernel_rfl) (by kernel_rfl) (by kernel_rfl) (fun _ _ _ h => h) (Or.inr ⟨by rfl, rfl⟩) hHeld ?_
    simp only [Act.put, List.getElem_toArray, List.getElem_cons_zero, List.getElem_cons_succ, List.setIfInBounds_toArray, List.set_cons_zero, List.set_cons_succ]
    refine wpAnyH_take (i := 22) (v := ?_) rfl (by kernel_rfl) (by kernel_rfl) (by kernel_rfl) (fun _ _ _ h => h) (Or.inl ⟨by rfl, ?_⟩) hHeld ?_
    rotate_left
    · (intro w hSw; go_simp; (try with_reducible rfl))
    simp only [Act.put, List.getElem_toArray, List.getElem_cons_zero, List.getElem_cons_succ, List.setIfInBounds_toArray, List.set_cons_zero, List.set_cons_succ]
    refine wpAnyH_done (by kernel_rfl) ?_ _
    clear hHeld
    go_wp2_with fail
    go_ret
    rw [HR.out]
    exact DP.no (r := (sT0, 20)) (by decide) HA.out HX.out hbw3
  refine wpAnyH_take (i := 15) (v := ?_) rfl (by kernel_rfl) (by kernel_rfl) (by kernel_rfl) (fun _ _ _ h => h) (Or.inl ⟨by rfl, ?_⟩) hHeld ?_
  rotate_left
  · (intro w hSw; go_simp; (try with_reducible rfl))
  simp only [Act.put, List.getElem_toArray, List.getElem_cons_zero, List.getElem_cons_succ, List.setIfInBounds_toArray, List.set_cons_zero, List.set_cons_succ]
  refine wpAnyH_take (i := 16) (v := ?_) rfl (by kernel_rfl) (by kernel_rfl) (by kernel_rfl) (fun _ _ _ h => h) (Or.inl ⟨by rfl, ?_⟩) hHeld ?_
  rotate_left
  · (intro w hSw; go_simp; (try with_reducible rfl))
  simp only [Act.put, List.getElem_toArray, List.getElem_cons_zero, List.getElem_cons_succ, List.setIfInBounds_toArray, List.set_cons_zero, List.set_cons_succ]
  refine wpAnyH_take (i := 17) (v := ?_) rfl (by kernel_rfl) (by kernel_rfl) (by kernel_rfl) (fun _ _ _ h => h) (Or.inl ⟨by rfl, ?_⟩) hHeld ?_
  rotate_left
  · (intro w hSw; go_simp; (try with_reducible rfl))
  simp only [Act.put, List.getElem_toArray, List.getElem_cons_zero, List.getElem_cons_succ, List.setIfInBounds_toArray, List.set_cons_zero, List.set_cons_succ]
  refine wpAnyH_take (i := 18) (v := ?_) rfl (by kernel_rfl) (by kernel_rfl) (by kernel_rfl) (fun _ _ _ h => h) (Or.inl ⟨by rfl, ?_⟩) hHeld ?_
  rotate_left
  · (intro w hSw; go_simp; (try with_reducible rfl))
  simp only [Act.put, List.getElem_toArray, List.getElem_cons_zero, List.getElem_cons_succ, List.setIfInBounds_toArray, List.set_cons_zero, List.set_cons_succ]
  cases tb
  case false =>
    have HR := Lib.hid (show ap5 s e = (sT0, 20) from ap5_bad (.inr (.inl HTB.out.symm)))
    refine wpAnyH_take (i := 19) (v := undef) rfl (by kernel_rfl) (by kernel_rfl) (by kernel_rfl) (fun _ _ _ h => h) (Or.inr ⟨by rfl, rfl⟩) hHeld ?_
    simp only [Act.put, List.getElem_toArray, List.getElem_cons_zero, List.getElem_cons_succ, List.setIfInBounds_toArray, List.set_cons_zero, List.set_cons_succ]
    refine wpAnyH_take (i := 20) (v := undef) rfl (by kernel_rfl) (by kernel_rfl) (by kernel_rfl) (fun _ _ _ h => h) (Or.inr ⟨by rfl, rfl⟩) hHeld ?_
    simp only [Act.put, List.getElem_toArray, List.getElem_cons_zero, List.getElem_cons_succ, List.setIfInBounds_toArray, List.set_cons_zero, List.set_cons_succ]
    refine wpAnyH_take (i := 21) (v := undef) rfl (by kernel_rfl) (by kernel_rfl) (by kernel_rfl) (fun _ _ _ h => h) (Or.inr ⟨by rfl, rfl⟩) hHeld ?_
    simp only [Act.put, List.getElem_toArray, List.getElem_cons_zero, List.getElem_cons_succ, List.setIfInBounds_toArray, List.set_cons_zero, List.set_cons_succ]
    refine wpAnyH_take (i := 22) (v := ?_) rfl (by kernel_rfl) (by kernel_rfl) (by kernel_rfl) (fun _ _ _ h => h) (Or.inl ⟨by rfl, ?_⟩) hHeld ?_
    rotate_left
    · (intro w hSw; go_simp; (try with_reducible rfl))
    simp only [Act.put, List.getElem_toArray, List.getElem_cons_zero, List.getElem_cons_succ, List.setIfInBounds_toArray, List.set_cons_zero, List.set_cons_succ]
    refine wpAnyH_done (by kernel_rfl) ?_ _
    clear hHeld
    go_wp2_with fail
    go_ret
    rw [HR.out]
    exact DP.no (r := (sT0, 20)) (by decide) HA.out HX.out hbw3
  refine wpAnyH_take (i := 19) (v := ?_) rfl (by kernel_rfl) (by kernel_rfl) (by kernel_rfl) (fun _ _ _ h => h) (Or.inl ⟨by rfl, ?_⟩) hHeld ?_
  rotate_left
  · (intro w hSw; go_simp; (try with_reducible rfl))
  simp only [Act.put, List.getElem_toArray, List.getElem_cons_zero, List.getElem_cons_succ, List.setIfInBounds_toArray, List.set_cons_zero, List.set_cons_succ]
  refine wpAnyH_take (i := 20) (v := ?_) rfl (by kernel_rfl) (by kernel_rfl) (by kernel_rfl) (fun _ _ _ h => h) (Or.inl ⟨by rfl, ?_⟩) hHeld ?_
  rotate_left
  · (intro w hSw; go_simp; (try with_reducible rfl))
  simp only [Act.put, List.getElem_toArray, List.getElem_cons_zero, List.getElem_cons_succ, List.setIfInBounds_toArray, List.set_cons_zero, List.set_cons_succ]
  by_cases htm : tx = (m : Int)
  case neg =>
    have HR := Lib.hid (show ap5 s e = (sT0, 20) from ap5_bad (.inr (.inr (.inl (by
      rw [← HTX.out]; have := HN.out; have := HM.out; omega)))))
    have d2 : (tx != (m : Int)) = true := bne_iff_ne.2 htm
    clear htm
    refine wpAnyH_take (i := 21) (v := ?_) rfl (by kernel_rfl) (by kernel_rfl) (by kernel_rfl) (fun _ _ _ h => h) (Or.inl ⟨by rfl, ?_⟩) hHeld ?_
    rotate_left
    · (intro w hSw; go_simp; (try with_reducible rfl))
    simp only [Act.put, List.getElem_toArray, List.getElem_cons_zero, List.getElem_cons_succ, List.setIfInBounds_toArray, List.set_cons_zero, List.set_cons_succ]
    refine wpAnyH_take (i := 22) (v := ?_) rfl (by kernel_rfl) (by kernel_rfl) (by kernel_rfl) (fun _ _ _ h => h) (Or.inl ⟨by rfl, ?_⟩) hHeld ?_
    rotate_left
    · (intro w hSw; go_simp; (try with_reducible rfl))
    simp only [Act.put, List.getElem_toArray, List.getElem_cons_zero, List.getElem_cons_succ, List.setIfInBounds_toArray, List.set_cons_zero, List.set_cons_succ]
    refine wpAnyH_done (by kernel_rfl) ?_ _
    clear hHeld
    go_wp2_with fail
    go_ret
    rw [HR.out]
    exact DP.no (r := (sT0, 20)) (by decide) HA.out HX.out hbw3
  have d2 : (tx != (m : Int)) = false := by rw [htm]; exact bne_self_eq_false _
  have HG := Lib.hid (ap5_good (s := s) (e := e) (by have := HN.out; have := HM.out; omega) HTB.out.symm (by rw [← HTX.out, htm]; have := HN.out; have := HM.out; omega) (by
    have h := HNs.out
    cases h2 : sameI 18 (s.objs.getD (s.objs.length - 1) fun _ => 0) (madeO e.a e.b e.c)
    · rw [h2] at h; cases h
    · rfl))
  clear htm
  refine wpAnyH_take (i := 21) (v := ?_) rfl (by kernel_rfl) (by kernel_rfl) (by kernel_rfl) (fun _ _ _ h => h) (Or.inl ⟨by rfl, ?_⟩) hHeld ?_
  rotate_left
  · (intro w hSw; go_simp; (try with_reducible rfl))
  simp only [Act.put, List.getElem_toArray, List.getElem_cons_zero, List.getElem_cons_succ, List.setIfInBounds_toArray, List.set_cons_zero, List.set_cons_succ]
  refine wpAnyH_take (i := 22) (v := ?_) rfl (by kernel_rfl) (by kernel_rfl) (by kernel_rfl) (fun _ _ _ h => h) (Or.inl ⟨by rfl, ?_⟩) hHeld ?_
  rotate_left
  · (intro w hSw; go_simp; (try with_reducible rfl))
  simp only [Act.put, List.getElem_toArray, List.getElem_cons_zero, List.getElem_cons_succ, List.setIfInBounds_toArray, List.set_cons_zero, List.set_cons_succ]
  refine wpAnyH_done (by kernel_rfl) ?_ _
  clear hHeld d2 hneq HNs
  have ha3 := HA.out.keep hbw3
  obtain ⟨A5, n5, c5, hL⟩ : ∃ A5 n5 c5, L 10 = ⟨A5, n5, c5⟩ := ⟨_, _, _, rfl⟩
  have hx3 := HX.out w3 (Stay.of hbw3)
  have k0 : w3.cell? ⟨g, 0, none⟩ = some (.slice (some ⟨b, off, none⟩) n c) := (ha3.cell 0).trans (stC_objs _ _ _ _)
  have k11 : w3.cell? ⟨g, 11, none⟩ = some (.slice A5 n5 c5) := by
    have h := (ha3.cell 11).trans (stC_list ⟨some ⟨b, off, none⟩, n, c⟩ L _ _ (show 10 < 11 by omega))
    rw [hL] at h
    exact h
  have hnc : n ≤ c := hx3.oc
  have hnc5 : n5 ≤ c5 := by have h := hx3.lc 10 (by omega); rw [hL] at h; exact h
  have hN5 : Nums .i64 w3 w3.heap.size A5 n5 (s.lists 10) := by have h := hx3.l 10 (by omega); rw [hL] at h; exact h
  have hR3 : RdO w3.heap.size w3 (some ⟨b, off, none⟩) (s.objs.take m) := RdO.take hx3.o m
  have hl5 := hN5.len
  obtain ⟨k, hk⟩ : ∃ k, n5 = k + 1 := ⟨n5 - 1, by have := HG.out.1; omega⟩
  have h1000 : n5 ≤ 1000 := by rw [← hl5]; exact HLL.out 10 (by omega)
  have HR := Lib.hid (show ap5 s e = (⟨s.objs.take m, updL s.lists 10 ((s.lists 10).take k), s.pl, s.gm⟩, 0) by
    rw [HG.out.2, show s.objs.length - 1 = m by have := HN.out; have := HM.out; omega, show (s.lists 10).length - 1 = k by omega])
  have ew : IntKind.i64.wrap ((n5 : Int) - 1) = (k : Int) := by rw [i64_in (by omega) (by omega)]; omega
  have hkn : k ≤ n5 := by omega
  have hcut := fun W => cutO_to (A := some ⟨b, off, none⟩) (show m ≤ n by omega) hnc W
  have hclO := cloneO_any (some ⟨b, off, none⟩) m c (s.objs.take m) w3 _ hR3 (Nat.le_refl _) (by rw [List.length_take]; omega) (by omega)
  have HL := Lib.hid hL
  have HWO := Lib.hid (show ∀ x ∈ s.objs.take m, ∀ i < 18, N64 (x i) from fun x hx => HX.out.now.ow x (List.mem_of_mem_take hx))
  have HWL := Lib.hid (show ∀ x ∈ (s.lists 10).take k, N64 x from fun x hx => HX.out.now.lw 10 (by omega) x (List.mem_of_mem_take hx))
  have hk5 : k ≤ 1000 := by omega
  clear hx3 hL hN5 hR3 hl5 hk h1000 HG hnc
  go_upto_region 6 with fail
  have k11' := k11
  clear k11
  go_wp2_with fail
  refine hclO.mono ?_
  rintro en w4 ⟨A7, c7, rfl, ho7, hb4⟩
  clear hclO
  have ha4 := ha3.keep hb4
  have hbw4 := keepB hb4 hbw3
  have f4 := frozen_of_row w4 g 0 _ _ ha4
  have k4 : w4.cell? ⟨g, 0, none⟩ = some (.slice (some ⟨b, off, none⟩) n c) := (ha4.cell 0).trans (stC_objs _ _ _ _)
  clear k0
  go_upto_region 7 with fail
  have HMd := Lib.hid (make_mid ha4 (Stay.of hbw4) hgl (ho7.low hbw3.size))
  obtain ⟨W5, hW5⟩ : ∃ W5, W5 = w4.setCell ⟨g, 0, none⟩ (.slice A7 m c7) := ⟨_, rfl⟩
  rw [← hW5] at HMd ⊢
  clear hW5 f4 k4 ho7 k11'
  have hN5 : Nums .i64 W5 W5.heap.size A5 n5 (s.lists 10) := by have h := (HX.out W5 HMd.out.s).l 10 (by omega); rw [HL.out] at h; exact h
  obtain ⟨A6, hcut5, hN6⟩ := cut_to (P := Try.prog) hN5 hnc5 hkn 23 (by kernel_rfl) (fun _ => by kernel_rfl)
  have HN6 := Lib.hid hN6
  have k6 : W5.cell? ⟨g, 11, none⟩ = some (.slice A5 n5 c5) := by
    have h := (HMd.out.a.cell 11).trans (stC_list ⟨A7, m, c7⟩ L _ _ (show 10 < 11 by omega))
    rw [HL.out] at h
    exact h
  clear hN5 hN6
  have hgW := HMd.out.a.lt
  refine region_stay g (by kernel_rfl) (fun hHeld => ?_)
  refine wpAnyH_take (i := 0) (v := ?_) rfl (by kernel_rfl) (by kernel_rfl) (by kernel_rfl) (fun _ _ _ h => h) (Or.inl ⟨by rfl, ?_⟩) hHeld ?_
  rotate_left
  · (intro w hSw; go_simp; (try with_reducible rfl))
  simp only [Act.put, List.getElem_toArray, List.getElem_cons_zero, List.getElem_cons_succ, List.setIfInBounds_toArray, List.set_cons_zero, List.set_cons_succ]
  refine wpAnyH_take (i := 1) (v := ?_) rfl (by kernel_rfl) (by kernel_rfl) (by kernel_rfl) (fun _ _ _ h => h) (Or.inl ⟨by rfl, ?_⟩) hHeld ?_
  rotate_left
  · (intro w hSw; go_simp; (try with_reducible rfl))
  simp only [Act.put, List.getElem_toArray, List.getElem_cons_zero, List.getElem_cons_succ, List.setIfInBounds_toArray, List.set_cons_zero, List.set_cons_succ]
  refine wpAnyH_take (i := 2) (v := ?_) rfl (by kernel_rfl) (by kernel_rfl) (by kernel_rfl) (fun _ _ _ h => h) (Or.inl ⟨by rfl, ?_⟩) hHeld ?_
  rotate_left
  · (intro w hSw; go_simp; (try with_reducible rfl))
  simp only [Act.put, List.getElem_toArray, List.getElem_cons_zero, List.getElem_cons_succ, List.setIfInBounds_toArray, List.set_cons_zero, List.set_cons_succ]
  refine wpAnyH_take (i := 3) (v := ?_) rfl (by kernel_rfl) (by kernel_rfl) (by kernel_rfl) (fun _ _ _ h => h) (Or.inl ⟨by rfl, ?_⟩) hHeld ?_
  rotate_left
  · (intro w hSw; go_simp; (try with_reducible rfl))
  simp only [Act.put, List.getElem_toArray, List.getElem_cons_zero, List.getElem_cons_succ, List.setIfInBounds_toArray, List.set_cons_zero, List.set_cons_succ]
  refine wpAnyH_take (i := 4) (v := ?_) rfl (by kernel_rfl) (by kernel_rfl) (by kernel_rfl) (fun _ _ _ h => h) (Or.inl ⟨by rfl, ?_⟩) hHeld ?_
  rotate_left
  · (intro w hSw; go_simp; (try with_reducible rfl))
  simp only [Act.put, List.getElem_toArray, List.getElem_cons_zero, List.getElem_cons_succ, List.setIfInBounds_toArray, List.set_cons_zero, List.set_cons_succ]
  refine wpAnyH_take (i := 5) (v := ?_) rfl (by kernel_rfl) (by kernel_rfl) (by kernel_rfl) (fun _ _ _ h => h) (Or.inl ⟨by rfl, ?_⟩) hHeld ?_
  rotate_left
  · (intro w hSw; go_simp; (try with_reducible rfl))
  simp only [Act.put, List.getElem_toArray, List.getElem_cons_zero, List.getElem_cons_succ, List.setIfInBounds_toArray, List.set_cons_zero, List.set_cons_succ]
  refine wpAnyH_take (i := 7) (v := ?_) rfl (by kernel_rfl) (by kernel_rfl) (by kernel_rfl) (fun _ _ _ h => h) (Or.inl ⟨by rfl, ?_⟩) hHeld ?_
  rotate_left
  · (intro w hSw; go_simp; (try with_reducible rfl))
  simp only [Act.put, List.getElem_toArray, List.getElem_cons_zero, List.getElem_cons_succ, List.setIfInBounds_toArray, List.set_cons_zero, List.set_cons_succ]
  refine wpAnyH_take (i := 8) (v := ?_) rfl (by kernel_rfl) (by kernel_rfl) (by kernel_rfl) (fun _ _ _ h => h) (Or.inl ⟨by rfl, ?_⟩) hHeld ?_
  rotate_left
  · (intro w hSw; go_simp; (try with_reducible rfl))
  simp only [Act.put, List.getElem_toArray, List.getElem_cons_zero, List.getElem_cons_succ, List.setIfInBounds_toArray, List.set_cons_zero, List.set_cons_succ]
  have hw6 : Below W5.heap.size W5 W5.drew := (Below.refl _ _).drew
  generalize W5.drew = W6 at hHeld hw6 ⊢
  refine anyH_restay hHeld (fun hHeld => ?_)
  have hclI := cloneI_any A6 k c5 ((s.lists 10).take k) W6 _ ((HN6.out.below hw6).more hw6.size) (Nat.le_refl _) (by omega)
  clear hcut5 hcut ew
  refine wpAnyH_ready (rs := [6]) (by kernel_rfl) (by simp) ?_
  refine AllReadyH.cons rfl (fun K hK => ?_) AllReadyH.nil
  simp only [List.getElem_toArray, List.getElem_cons_zero, List.getElem_cons_succ]
  go_simp
  refine hclI.mono ?_
  rintro en W9 ⟨A9, c9, rfl, ho9, hb9⟩
  clear hclI
  go_wp2_with fail
  have hB9 := hHeld.then hb9
  refine hK.out _ _ hB9 (fun _ => ?_)
  clear hK K
  try simp only [Act.put, List.setIfInBounds_toArray, List.set_cons_zero, List.set_cons_succ]
  refine anyH_restay hB9 (fun hHeld => ?_)
  have hw9 := keepB hb9 hw6
  have ha9 := HMd.out.a.keep hw9
  have k9 : W9.cell? ⟨g, 11, none⟩ = some (.slice A5 n5 c5) := (hw9.cell (p := ⟨g, 11, none⟩) (by simpa using hgW)).trans k6
  have f9 := frozen_of_row W9 g 11 _ _ ha9
  have HFin := Lib.hid (made_end HX.out HMd.out hgl HWO.out hw9 ((ho9.base_le (show w.heap.size ≤ W6.heap.size from Nat.le_trans HMd.out.s.size hw6.size)).slR) HWL.out HR.out)
  clear ho9 ha9 hw9
  refine wpAnyH_take (i := 9) (v := ?_) rfl (by kernel_rfl) (by kernel_rfl) (by kernel_rfl) (fun _ _ _ h => h) (Or.inl ⟨by rfl, ?_⟩) hHeld ?_
  rotate_left
  · (intro w hSw; go_simp; (try with_reducible rfl))
  simp only [Act.put, List.getElem_toArray, List.getElem_cons_zero, List.getElem_cons_succ, List.setIfInBounds_toArray, List.set_cons_zero, List.set_cons_succ]
  refine wpAnyH_ready (rs := [10]) (by kernel_rfl) (by simp) ?_
  refine AllReadyH.cons rfl (fun K hK => ?_) AllReadyH.nil
  simp only [List.getElem_toArray, List.getElem_cons_zero, List.getElem_cons_succ]
  go_simp
  refine hK.out _ _ ((Stay.refl g W9).set_ 11 _) (fun _ => ?_)
  clear hK K
  try simp only [Act.put, List.setIfInBounds_toArray, List.set_cons_zero, List.set_cons_succ]
  refine wpAnyH_done (by kernel_rfl) ?_ _
  clear k9 f9 hB9 hHeld hb9
  go_wp2_with fail
  go_ret
  exact HFin.out
end Go.Proofs.Ythedopnhhanknaa
namespace Go.Proofs.Ythedopnhhanknaa
open Go.RowKit Ex
set_option maxRecDepth 100000
/-- A state of which lists were laid anew. -/
structure MidL (w : World) (g : Nat) (s : StT) (O : SlT) (ls : Nat → List Int) (L : Nat → SlT) (W : World) : Prop where
  a : StAt W g (stC O L s.pl s.gm)
  x : ReadsX g W (stC O L s.pl s.gm) ⟨s.objs, ls, s.pl, s.gm⟩ O L
  s : Stay g w W
theorem MidL.keep {w W W' : World} {g : Nat} {s : StT} {O : SlT} {ls : Nat → List Int} {L : Nat → SlT} (h : MidL w g s O ls L W) (hb : Below W.heap.size W W') : MidL w g s O ls L W' := ⟨h.a.keep hb, h.x.stay (Stay.of hb), h.s.then hb⟩
theorem MidL.set_ {w W : World} {g base : Nat} {s : StT} {O : SlT} {ls : Nat → List Int} {L : Nat → SlT} (h : MidL w g s O ls L W) {z : Nat} (hz : z < 11) {x : SlT} {l : List Int} (hx : SlR W base x l) (hg : g < base) (hn : ∀ n ∈ l, N64 n) :
    MidL w g s O (updL ls z l) (updS L z x) (W.setCell ⟨g, 1 + z, none⟩ x.v) := by
  refine ⟨?_, (h.x.list (z := z) hx hg hn).stay ((Stay.refl g W).set_ (1 + z) x.v), h.s.set_ (1 + z) x.v⟩
  unfold StAt
  rw [heap_setCell_same W g (1 + z) _ _ _ h.a, stC_set_list _ _ _ _ _ hz]
theorem MidL.list {w W : World} {g : Nat} {s : StT} {O : SlT} {ls : Nat → List Int} {L : Nat → SlT} (h : MidL w g s O ls L W) {z : Nat} (hz : z < 11) :
    ∃ A n c, L z = ⟨A, n, c⟩ ∧ W.cell? ⟨g, 1 + z, none⟩ = some (.slice A n c) ∧ W.frozen? ⟨g, 1 + z, none⟩ = false ∧ Nums .i64 W W.heap.size A n (ls z) ∧ n ≤ c ∧ ∀ x ∈ ls z, N64 x := by
  have hr := h.x.now
  refine ⟨(L z).A, (L z).n, (L z).c, rfl, (h.a.cell _).trans (stC_list _ _ _ _ hz), frozen_of_row W g _ _ _ h.a, hr.l z hz, hr.lc z hz, hr.lw z hz⟩
/-- The event's numbers. -/
structure EvN (W : World) (ge : Nat) (i b k d f : Nat) : Prop where
  a : W.cell? ⟨ge, 1, none⟩ = some (.int .i64 (i : Int))
  b : W.cell? ⟨ge, 2, none⟩ = some (.int .i64 (b : Int))
  c : W.cell? ⟨ge, 3, none⟩ = some (.int .i64 (k : Int))
  d : W.cell? ⟨ge, 4, none⟩ = some (.int .i64 (d : Int))
  e : W.cell? ⟨ge, 5, none⟩ = some (.int .i64 (f : Int))
theorem EvN.of {W : World} {ge : Nat} {e : EvT} (h : EvB W ge e) {i b k d f : Nat} (h1 : e.a = (i : Int)) (h2 : e.b = (b : Int)) (h3 : e.c = (k : Int)) (h4 : e.d = (d : Int)) (h5 : e.e = (f : Int)) : EvN W ge i b k d f := by
  obtain ⟨_, q1, q2, q3, q4, q5⟩ := h.cells
  rw [h1] at q1; rw [h2] at q2; rw [h3] at q3; rw [h4] at q4; rw [h5] at q5
  exact ⟨q1, q2, q3, q4, q5⟩
theorem EvN.keep {W W' : World} {ge : Nat} {i b k d f : Nat} (h : EvN W ge i b k d f) (hg : ge < W.heap.size) (hb : Below W.heap.size W W') : EvN W' ge i b k d f :=
  ⟨(hb.cell (by simpa using hg)).trans h.a, (hb.cell (by simpa using hg)).trans h.b, (hb.cell (by simpa using hg)).trans h.c, (hb.cell (by simpa using hg)).trans h.d, (hb.cell (by simpa using hg)).trans h.e⟩
theorem EvN.set_ {W : World} {ge g j : Nat} {v : Value} {i b k d f : Nat} (h : EvN W ge i b k d f) (hn : ge ≠ g) : EvN (W.setCell ⟨g, j, none⟩ v) ge i b k d f :=
  ⟨(World.cell?_setCell_far _ _ _ _ (by simpa using Ne.symm hn)).trans h.a, (World.cell?_setCell_far _ _ _ _ (by simpa using Ne.symm hn)).trans h.b, (World.cell?_setCell_far _ _ _ _ (by simpa using Ne.symm hn)).trans h.c, (World.cell?_setCell_far _ _ _ _ (by simpa using Ne.symm hn)).trans h.d, (World.cell?_setCell_far _ _ _ _ (by simpa using Ne.symm hn)).trans h.e⟩
set_option linter.unusedSimpArgs false in
set_option maxHeartbeats 0 in
theorem move_obj_code (s : StT) (O : SlT) (L : Nat → SlT) (g : Nat) (e : EvT) (w : World) (ha : StAt w g (stC O L s.pl s.gm)) (hx : ReadsX g w (stC O L s.pl s.gm) s O L) (hn : s.objs.length ≤ 1000) (hll : ∀ z < 11, (s.lists z).length ≤ 1000) (hi : EvI e)
    (hea : 0 ≤ e.a) (heb : 0 ≤ e.b ∧ e.b ≤ 10) (hec : 0 ≤ e.c) (hed : 0 ≤ e.d ∧ e.d ≤ 10) (hee : 0 ≤ e.e) :
    Calls Try.prog 34 #[.pointer (some ⟨g, 0, none⟩), evV e] w (DP w g s (ap1 s e)) := by
  have hgl := ha.lt
  obtain ⟨A, n, c⟩ := O
  have c0 : w.cell? ⟨g, 0, none⟩ = some (.slice A n c) := (ha.cell 0).trans (stC_objs _ _ _ _)
  have hOn : n = s.objs.length := hx.now.on
  have HX := Lib.hid hx
  have HA := Lib.hid ha
  have HI := Lib.hid hi
  have HLL := Lib.hid hll
  have HN := Lib.hid hOn
  obtain ⟨i, hia⟩ : ∃ i : Nat, e.a = (i : Int) := ⟨e.a.toNat, by omega⟩
  obtain ⟨b, hib⟩ : ∃ i : Nat, e.b = (i : Int) := ⟨e.b.toNat, by omega⟩
  obtain ⟨k, hic⟩ : ∃ i : Nat, e.c = (i : Int) := ⟨e.c.toNat, by omega⟩
  obtain ⟨d, hid⟩ : ∃ i : Nat, e.d = (i : Int) := ⟨e.d.toNat, by omega⟩
  obtain ⟨f, hie⟩ : ∃ i : Nat, e.e = (i : Int) := ⟨e.e.toNat, by omega⟩
  have hb : b < 11 := by omega
  have hd : d < 11 := by omega
  have hn1 : n ≤ 1000 := by omega
  have HIA := Lib.hid hia
  have HEV := Lib.hid (And.intro hib (And.intro hic (And.intro hid hie)))
  clear ha hx hi hll hn hOn hea heb hec hed hee hia hib hic hid hie
  go_enter Try.func34, Try.ntmps34
  go_upto_region 1 with fail
  obtain ⟨w1, hw1⟩ : ∃ w1, w1 = w.alloc (.cells (evC e) 31) := ⟨_, rfl⟩
  have hrow : EvB w1 w.heap.size e := by rw [hw1]; exact heap_alloc_new _ _
  have hb1 : Below w.heap.size w w1 := by rw [hw1]; exact (Below.refl _ _).alloc (Nat.le_refl _) _
  show Code.wp _ _ _ _ (w.alloc (.cells (evC e) 31))
  rw [← hw1]
  clear hw1
  have hg1 := hrow.lt
  obtain ⟨ge, hge⟩ : ∃ g, g = w.heap.size := ⟨_, rfl⟩
  rw [← hge] at hrow hg1 ⊢
  have hne : ge ≠ g := by omega
  have HGE := Lib.hid hge
  have k0 := (hb1.cell (p := ⟨g, 0, none⟩) (by simpa using hgl)).trans c0
  clear c0 hge
  have HV := Lib.hid (EvN.of hrow HIA.out HEV.out.1 HEV.out.2.1 HEV.out.2.2.1 HEV.out.2.2.2)
  have hbl := fun W => below_any (i : Int) (n : Int) W
  obtain ⟨q, hq⟩ : ∃ q, q = (decide (0 ≤ (i : Int)) && decide ((i : Int) < (n : Int))) := ⟨_, rfl⟩
  rw [← hq] at hbl
  have HQ := Lib.hid hq
  clear hq
  have k0b : ∀ W, Below w1.heap.size w1 W → W.cell? ⟨g, 0, none⟩ = some (.slice A n c) := fun W hW => (hW.cell (by have := hb1.size; simp only; omega)).trans k0
  have q1b : ∀ W, Below w1.heap.size w1 W → W.cell? ⟨ge, 1, none⟩ = some (.int .i64 (i : Int)) := fun W hW => (HV.out.keep hg1 hW).a
  refine region_below (by kernel_rfl) (fun hHeld => ?_)
  refine wpAnyH_take (i := 0) (v := ?_) rfl (by kernel_rfl) (by kernel_rfl) (by kernel_rfl) (fun _ _ _ h => h) (Or.inl ⟨by rfl, ?_⟩) hHeld ?_
  rotate_left
  · (intro w hSw; go_simp; (try with_reducible rfl))
  simp only [Act.put, List.getElem_toArray, List.getElem_cons_zero, List.getElem_cons_succ, List.setIfInBounds_toArray, List.set_cons_zero, List.set_cons_succ]
  refine wpAnyH_take (i := 1) (v := ?_) rfl (by kernel_rfl) (by kernel_rfl) (by kernel_rfl) (fun _ _ _ h => h) (Or.inl ⟨by rfl, ?_⟩) hHeld ?_
  rotate_left
  · (intro w hSw; go_simp; (try with_reducible rfl))
  simp only [Act.put, List.getElem_toArray, List.getElem_cons_zero, List.getElem_cons_succ, List.setIfInBounds_toArray, List.set_cons_zero, List.set_cons_succ]
  refine wpAnyH_take (i := 2) (v := ?_) rfl (by kernel_rfl) (by kernel_rfl) (by kernel_rfl) (fun _ _ _ h => h) (Or.inl ⟨by rfl, ?_⟩) hHeld ?_
  rotate_left
  · (intro w hSw; go_simp; (try with_reducible rfl))
  simp only [Act.put, List.getElem_toArray, List.getElem_cons_zero, List.getElem_cons_succ, List.setIfInBounds_toArray, List.set_cons_zero, List.set_cons_succ]
  refine wpAnyH_take (i := 3) (v := ?_) rfl (by kernel_rfl) (by kernel_rfl) (by kernel_rfl) (fun _ _ _ h => h) (Or.inl ⟨by rfl, ?_⟩) hHeld ?_
  rotate_left
  · (intro w hSw; go_simp; (try with_reducible rfl))
  simp only [Act.put, List.getElem_toArray, List.getElem_cons_zero, List.getElem_cons_succ, List.setIfInBounds_toArray, List.set_cons_zero, List.set_cons_succ]
  refine wpAnyH_take (i := 4) (v := ?_) rfl (by kernel_rfl) (by kernel_rfl) (by kernel_rfl) (fun _ _ _ h => h) (Or.inl ⟨by rfl, ?_⟩) hHeld ?_
  rotate_left
  · (intro w hSw; go_simp; (try with_reducible rfl))
  simp only [Act.put, List.getElem_toArray, List.getElem_cons_zero, List.getElem_cons_succ, List.setIfInBounds_toArray, List.set_cons_zero, List.set_cons_succ]
  refine wpAnyH_take (i := 5) (v := ?_) rfl (by kernel_rfl) (by kernel_rfl) (by kernel_rfl) (fun _ _ _ h => h) (Or.inl ⟨by rfl, ?_⟩) hHeld ?_
  rotate_left
  · (intro w hSw; go_simp; (try with_reducible rfl))
  simp only [Act.put, List.getElem_toArray, List.getElem_cons_zero, List.getElem_cons_succ, List.setIfInBounds_toArray, List.set_cons_zero, List.set_cons_succ]
  refine wpAnyH_take (i := 6) (v := ?_) rfl (by kernel_rfl) (by kernel_rfl) (by kernel_rfl) (fun _ _ _ h => h) (Or.inl ⟨by rfl, ?_⟩) hHeld ?_
  rotate_left
  · (intro w hSw; go_simp; (try with_reducible rfl))
  simp only [Act.put, List.getElem_toArray, List.getElem_cons_zero, List.getElem_cons_succ, List.setIfInBounds_toArray, List.set_cons_zero, List.set_cons_succ]
  refine wpAnyH_ready (rs := [7]) (by kernel_rfl) (by simp) ?_
  refine AllReadyH.cons rfl (fun K hK => ?_) AllReadyH.nil
  simp only [List.getElem_toArray, List.getElem_cons_zero, List.getElem_cons_succ]
  go_simp
  refine (hbl _).mono ?_
  rintro en W1 ⟨rfl, rfl⟩
  clear hbl
  go_wp2_with fail
  have hB7 := keepB (Below.refl _ _) hHeld
  refine hK.out _ _ hB7 (fun _ => ?_)
  clear hK K
  try simp only [Act.put, List.setIfInBounds_toArray, List.set_cons_zero, List.set_cons_succ]
  refine anyH_rebase hB7 (fun hHeld => ?_)
  refine wpAnyH_take (i := 8) (v := ?_) rfl (by kernel_rfl) (by kernel_rfl) (by kernel_rfl) (fun _ _ _ h => h) (Or.inl ⟨by rfl, ?_⟩) hHeld ?_
  rotate_left
  · (intro w hSw; go_simp; (try with_reducible rfl))
  simp only [Act.put, List.getElem_toArray, List.getElem_cons_zero, List.getElem_cons_succ, List.setIfInBounds_toArray, List.set_cons_zero, List.set_cons_succ]
  refine wpAnyH_done (by kernel_rfl) ?_ _
  have hV0 : EvN w1.drew ge i b k d f := HV.out.keep hg1 (Below.refl _ _).drew
  have hg1 : ge < w1.drew.heap.size := hg1
  have hM0 : MidL w g s ⟨A, n, c⟩ s.lists L w1.drew := ⟨HA.out.keep hb1.drew, HX.out.stay (Stay.of hb1.drew), Stay.of hb1.drew⟩
  have hbW : Below w.heap.size w w1.drew := hb1.drew
  clear k0b q1b HV hHeld hB7 hb1 k0 hrow
  generalize w1.drew = W0 at hV0 hg1 hM0 hbW ⊢
  cases q
  · have HR := Lib.hid (show ap1 s e = (sT0, 4) from by
      have h1 := HQ.out
      have h2 := HN.out
      have h3 := HIA.out
      rw [eq_comm, Bool.and_eq_false_iff] at h1
      simp at h1
      exact if_pos (by omega))
    go_wp2_with fail
    go_ret
    rw [HR.out]
    exact DP.no (r := (sT0, 4)) (by decide) HA.out HX.out hbW
  have hin : i < n := by
    have h1 := HQ.out
    rw [eq_comm, Bool.and_eq_true] at h1
    simp at h1
    omega
  clear HQ
  obtain ⟨Ab, nb, cb, hLb, kb, _, hNb, hcb, hwb⟩ := hM0.list hb
  have hlnb := hNb.len
  have hfb : nb ≤ 1000 := by rw [← hlnb]; exact HLL.out b hb
  have HV0 := Lib.hid hV0
  have HM0 := Lib.hid hM0
  have kbb : ∀ W, Below W0.heap.size W0 W → W.cell? ⟨g, 1 + b, none⟩ = some (.slice Ab nb cb) := fun W hW => (hW.cell (by have := hbW.size; simp only; omega)).trans kb
  have q2b : ∀ W, Below W0.heap.size W0 W → W.cell? ⟨ge, 2, none⟩ = some (.int .i64 (b : Int)) := fun W hW => (HV0.out.keep hg1 hW).b
  have q3b : ∀ W, Below W0.heap.size W0 W → W.cell? ⟨ge, 3, none⟩ = some (.int .i64 (k : Int)) := fun W hW => (HV0.out.keep hg1 hW).c
  have g0 : (0 : Int) ≤ (b : Int) := by omega
  have g1 : (b : Int) < 11 := by omega
  have hrm := remove_code Ab nb cb (s.lists b) (k : Int) W0.drew ⟨hNb, hcb, hfb, hwb⟩
  clear hV0 hM0 kb hNb hlnb
  go_upto_region 3 with fail
  refine region_below (by kernel_rfl) (fun hHeld => ?_)
  refine wpAnyH_take (i := 0) (v := ?_) rfl (by kernel_rfl) (by kernel_rfl) (by kernel_rfl) (fun _ _ _ h => h) (Or.inl ⟨by rfl, ?_⟩) hHeld ?_
  rotate_left
  · (intro w hSw; go_simp; (try with_reducible rfl))
  simp only [Act.put, List.getElem_toArray, List.getElem_cons_zero, List.getElem_cons_succ, List.setIfInBounds_toArray, List.set_cons_zero, List.set_cons_succ]
  refine wpAnyH_take (i := 1) (v := ?_) rfl (by kernel_rfl) (by kernel_rfl) (by kernel_rfl) (fun _ _ _ h => h) (Or.inl ⟨by rfl, ?_⟩) hHeld ?_
  rotate_left
  · (intro w hSw; go_simp; (try with_reducible rfl))
  simp only [Act.put, List.getElem_toArray, List.getElem_cons_zero, List.getElem_cons_succ, List.setIfInBounds_toArray, List.set_cons_zero, List.set_cons_succ]
  refine wpAnyH_take (i := 2) (v := ?_) rfl (by kernel_rfl) (by kernel_rfl) (by kernel_rfl) (fun _ _ _ h => h) (Or.inl ⟨by rfl, ?_⟩) hHeld ?_
  rotate_left
  · (intro w hSw; go_simp; (try with_reducible rfl))
  simp only [Act.put, List.getElem_toArray, List.getElem_cons_zero, List.getElem_cons_succ, List.setIfInBounds_toArray, List.set_cons_zero, List.set_cons_succ]
  refine wpAnyH_take (i := 3) (v := ?_) rfl (by kernel_rfl) (by kernel_rfl) (by kernel_rfl) (fun _ _ _ h => h) (Or.inl ⟨by rfl, ?_⟩) hHeld ?_
  rotate_left
  · (intro w hSw; go_simp; (try with_reducible rfl))
  simp only [Act.put, List.getElem_toArray, List.getElem_cons_zero, List.getElem_cons_succ, List.setIfInBounds_toArray, List.set_cons_zero, List.set_cons_succ]
  refine wpAnyH_take (i := 4) (v := ?_) rfl (by kernel_rfl) (by kernel_rfl) (by kernel_rfl) (fun _ _ _ h => h) (Or.inl ⟨by rfl, ?_⟩) hHeld ?_
  rotate_left
  · (intro w hSw; go_simp; (try with_reducible rfl))
  simp only [Act.put, List.getElem_toArray, List.getElem_cons_zero, List.getElem_cons_succ, List.setIfInBounds_toArray, List.set_cons_zero, List.set_cons_succ]
  refine wpAnyH_take (i := 5) (v := ?_) rfl (by kernel_rfl) (by kernel_rfl) (by kernel_rfl) (fun _ _ _ h => h) (Or.inl ⟨by rfl, ?_⟩) hHeld ?_
  rotate_left
  · (intro w hSw; go_simp; (try with_reducible rfl))
  simp only [Act.put, List.getElem_toArray, List.getElem_cons_zero, List.getElem_cons_succ, List.setIfInBounds_toArray, List.set_cons_zero, List.set_cons_succ]
  refine wpAnyH_take (i := 6) (v := ?_) rfl (by kernel_rfl) (by kernel_rfl) (by kernel_rfl) (fun _ _ _ h => h) (Or.inl ⟨by rfl, ?_⟩) hHeld ?_
  rotate_left
  · (intro w hSw; go_simp; (try with_reducible rfl))
  simp only [Act.put, List.getElem_toArray, List.getElem_cons_zero, List.getElem_cons_succ, List.setIfInBounds_toArray, List.set_cons_zero, List.set_cons_succ]
  refine wpAnyH_take (i := 7) (v := ?_) rfl (by kernel_rfl) (by kernel_rfl) (by kernel_rfl) (fun _ _ _ h => h) (Or.inl ⟨by rfl, ?_⟩) hHeld ?_
  rotate_left
  · (intro w hSw; go_simp; (try with_reducible rfl))
  simp only [Act.put, List.getElem_toArray, List.getElem_cons_zero, List.getElem_cons_succ, List.setIfInBounds_toArray, List.set_cons_zero, List.set_cons_succ]
  refine wpAnyH_take (i := 8) (v := ?_) rfl (by kernel_rfl) (by kernel_rfl) (by kernel_rfl) (fun _ _ _ h => h) (Or.inl ⟨by rfl, ?_⟩) hHeld ?_
  rotate_left
  · (intro w hSw; go_simp; (try with_reducible rfl))
  simp only [Act.put, List.getElem_toArray, List.getElem_cons_zero, List.getElem_cons_succ, List.setIfInBounds_toArray, List.set_cons_zero, List.set_cons_succ]
  clear kbb q2b q3b
  refine wpAnyH_ready (rs := [9]) (by kernel_rfl) (by simp) ?_
  refine AllReadyH.cons rfl (fun K hK => ?_) AllReadyH.nil
  simp only [List.getElem_toArray, List.getElem_cons_zero, List.getElem_cons_succ]
  go_simp
  refine hrm.mono ?_
  rintro en W1 ⟨hb2, (⟨hok, A1, n1, c1, rfl, hm1⟩ | ⟨hno, A1, c1, rfl⟩)⟩
  · clear hrm
    rw [Int.toNat_natCast] at hm1 ⊢
    obtain ⟨x, hx⟩ : ∃ x, x = (s.lists b).getD k 0 := ⟨_, rfl⟩
    obtain ⟨l1, hl1⟩ : ∃ l1, l1 = rmL (s.lists b) k := ⟨_, rfl⟩
    rw [← hx]
    rw [← hl1] at hm1
    have HXx := Lib.hid hx
    have HL1 := Lib.hid hl1
    clear hx hl1
    go_wp2_with fail
    have hB9 := keepB hb2 hHeld
    refine hK.out _ _ hB9 (fun _ => ?_)
    clear hK K
    try simp only [Act.put, List.setIfInBounds_toArray, List.set_cons_zero, List.set_cons_succ]
    refine anyH_rebase hB9 (fun hHeld => ?_)
    refine wpAnyH_take (i := 10) (v := ?_) rfl (by kernel_rfl) (by kernel_rfl) (by kernel_rfl) (fun _ _ _ h => h) (Or.inl ⟨by rfl, ?_⟩) hHeld ?_
    rotate_left
    · (intro w hSw; go_simp; (try with_reducible rfl))
    simp only [Act.put, List.getElem_toArray, List.getElem_cons_zero, List.getElem_cons_succ, List.setIfInBounds_toArray, List.set_cons_zero, List.set_cons_succ]
    refine wpAnyH_take (i := 11) (v := ?_) rfl (by kernel_rfl) (by kernel_rfl) (by kernel_rfl) (fun _ _ _ h => h) (Or.inl ⟨by rfl, ?_⟩) hHeld ?_
    rotate_left
    · (intro w hSw; go_simp; (try with_reducible rfl))
    simp only [Act.put, List.getElem_toArray, List.getElem_cons_zero, List.getElem_cons_succ, List.setIfInBounds_toArray, List.set_cons_zero, List.set_cons_succ]
    refine wpAnyH_take (i := 12) (v := ?_) rfl (by kernel_rfl) (by kernel_rfl) (by kernel_rfl) (fun _ _ _ h => h) (Or.inl ⟨by rfl, ?_⟩) hHeld ?_
    rotate_left
    · (intro w hSw; go_simp; (try with_reducible rfl))
    simp only [Act.put, List.getElem_toArray, List.getElem_cons_zero, List.getElem_cons_succ, List.setIfInBounds_toArray, List.set_cons_zero, List.set_cons_succ]
    refine wpAnyH_take (i := 13) (v := ?_) rfl (by kernel_rfl) (by kernel_rfl) (by kernel_rfl) (fun _ _ _ h => h) (Or.inl ⟨by rfl, ?_⟩) hHeld ?_
    rotate_left
    · (intro w hSw; go_simp; (try with_reducible rfl))
    simp only [Act.put, List.getElem_toArray, List.getElem_cons_zero, List.getElem_cons_succ, List.setIfInBounds_toArray, List.set_cons_zero, List.set_cons_succ]
    refine wpAnyH_take (i := 14) (v := ?_) rfl (by kernel_rfl) (by kernel_rfl) (by kernel_rfl) (fun _ _ _ h => h) (Or.inl ⟨by rfl, ?_⟩) hHeld ?_
    rotate_left
    · (intro w hSw; go_simp; (try with_reducible rfl))
    simp only [Act.put, List.getElem_toArray, List.getElem_cons_zero, List.getElem_cons_succ, List.setIfInBounds_toArray, List.set_cons_zero, List.set_cons_succ]
    refine wpAnyH_take (i := 15) (v := ?_) rfl (by kernel_rfl) (by kernel_rfl) (by kernel_rfl) (fun _ _ _ h => h) (Or.inl ⟨by rfl, ?_⟩) hHeld ?_
    rotate_left
    · (intro w hSw; go_simp; (try with_reducible rfl))
    simp only [Act.put, List.getElem_toArray, List.getElem_cons_zero, List.getElem_cons_succ, List.setIfInBounds_toArray, List.set_cons_zero, List.set_cons_succ]
    refine wpAnyH_take (i := 16) (v := ?_) rfl (by kernel_rfl) (by kernel_rfl) (by kernel_rfl) (fun _ _ _ h => h) (Or.inl ⟨by rfl, ?_⟩) hHeld ?_
    rotate_left
    · (intro w hSw; go_simp; (try with_reducible rfl))
    simp only [Act.put, List.getElem_toArray, List.getElem_cons_zero, List.getElem_cons_succ, List.setIfInBounds_toArray, List.set_cons_zero, List.set_cons_succ]
    refine wpAnyH_done (by kernel_rfl) ?_ _
    have hV1 : EvN W1 ge i b k d f := HV0.out.keep hg1 hB9
    have hM1 := HM0.out.keep hB9
    have hbW1 := keepB hB9 hbW
    have hg1 : ge < W1.heap.size := Nat.lt_of_lt_of_le hg1 hB9.size
    have hm1 : Mine W1 w.heap.size A1 n1 c1 l1 := hm1.base_le hbW.size
    have hkn : k < nb := by unfold Within at hok; omega
    have hlb : (s.lists b).length = nb := by
      have h := (HM0.out.x.now.l b hb).len
      rw [hLb] at h
      exact h
    have hn1e : n1 = nb - 1 := by rw [← hm1.len, HL1.out, rm_len _ _ (by omega)]; omega
    have HNE := Lib.hid hn1e
    have HLB := Lib.hid hlb
    clear hHeld hB9 hb2 hok hn1e hlb hLb
    obtain ⟨_, q1, q2, q3, q4, q5⟩ : True ∧ _ ∧ _ ∧ _ ∧ _ ∧ _ := ⟨trivial, hV1.a, hV1.b, hV1.c, hV1.d, hV1.e⟩
    by_cases hxi : x = (i : Int)
    case neg =>
      have HR := Lib.hid (show ap1 s e = (sT0, 20) from by
        obtain ⟨h1, h2, h3, h4⟩ := HEV.out
        have h5 := HIA.out
        have h6 := HXx.out
        have h7 := HN.out
        have hlb := HLB.out
        unfold ap1
        rw [if_neg (by omega), if_pos (.inr (by rw [h1, h2, h5, Int.toNat_natCast, Int.toNat_natCast, ← h6]; exact hxi))])
      have hd1 : (x != (i : Int)) = true := bne_iff_ne.2 hxi
      clear hxi
      go_wp2_with fail
      go_ret
      rw [HR.out]
      exact DP.no (r := (sT0, 20)) (by decide) HA.out HX.out hbW1
    have hd1 : (x != (i : Int)) = false := by rw [hxi]; exact bne_self_eq_false _
    have HMv := Lib.hid (show ap1 s e = if ((mv1 s e d).length : Int) < f then (sT0, 1) else (⟨setO s.objs i 3 d, updL (updL s.lists b l1) d (insL (mv1 s e d) f i), s.pl, s.gm⟩, 0) from by
      obtain ⟨h1, h2, h3, h4⟩ := HEV.out
      have h5 := HIA.out
      have h6 := HXx.out
      have h7 := HN.out
      have hlb := HLB.out
      unfold ap1
      rw [if_neg (by omega), if_neg]
      · rw [h3, h4, h5, Int.toNat_natCast, Int.toNat_natCast, Int.toNat_natCast, show mv1 s e = updL s.lists b l1 by unfold mv1; rw [h1, h2, Int.toNat_natCast, Int.toNat_natCast, HL1.out]]
      · rw [h1, h2, h5, Int.toNat_natCast, Int.toNat_natCast, ← h6]
        rintro (h | h)
        · omega
        · exact h hxi)
    have HMe := Lib.hid (show mv1 s e d = if d = b then l1 else s.lists d from by
      obtain ⟨h1, h2, h3, h4⟩ := HEV.out
      unfold mv1
      rw [h1, h2, Int.toNat_natCast, Int.toNat_natCast, ← HL1.out]
      rfl)
    clear hxi
    obtain ⟨Ad, nd, cd, hLd, kd, _, hNd, hcd, hwd⟩ := hM1.list hd
    have hfd : nd ≤ 1000 := by rw [← hNd.len]; exact HLL.out d hd
    have HM1 := Lib.hid hM1
    have HNd := Lib.hid hNd
    have HMi := Lib.hid hm1
    have HV1 := Lib.hid hV1
    have e0 : (0 : Int) ≤ (d : Int) := by omega
    have e1 : (d : Int) < 11 := by omega
    clear hNd hm1 hM1 hV1 HM0 HV0 hLd
    go_upto_region 6 with fail
    clear hd1
    go_region
    go_upto_region 7 with fail
    clear kd
    have hdr : Below W1.heap.size W1 W1.drew := (Below.refl _ _).drew
    have HM2 := Lib.hid (HM1.out.keep hdr)
    have HNd2 := Lib.hid ((HNd.out.below hdr).more hdr.size)
    have HMi2 := Lib.hid (SlR.keep (show SlR W1 w.heap.size ⟨A1, n1, c1⟩ l1 from ⟨HMi.out.1, HMi.out.2.1, HMi.out.2.2⟩) hdr)
    have HV2 := Lib.hid (HV1.out.keep hg1 hdr)
    have hbW2 := keepB hdr hbW1
    have hg2 : ge < W1.drew.heap.size := hg1
    clear q1 q2 q3 q4 q5 HM1 HNd HMi HV1 hdr hbW1
    generalize W1.drew = W2 at HM2 HNd2 HMi2 HV2 hbW2 hg2 ⊢
    obtain ⟨_, q1, q2, q4, q5⟩ : True ∧ _ ∧ _ ∧ _ ∧ _ := ⟨trivial, HV2.out.a, HV2.out.b, HV2.out.d, HV2.out.e⟩
    have hwf1 : ∀ y ∈ l1, N64 y := fun y hy => hwb y (by rw [HL1.out] at hy; exact mem_rmL hy)
    by_cases hdb : d = b
    · have hdd : ((d : Int) == (b : Int)) = true := by rw [hdb]; exact beq_self_eq_true _
      have HInto := Lib.hid (show mv1 s e d = l1 from HMe.out.trans (if_pos hdb))
      have hins := insert_code A1 n1 c1 l1 (f : Int) (i : Int) W2 ⟨HMi2.out.N, HMi2.out.c, by have := HNE.out; omega, hwf1⟩
      have hnI : n1 = l1.length := HMi2.out.N.len.symm
      clear hdb
      have HnI := Lib.hid hnI
      clear hnI
      go_wp2_with fail
      refine hins.mono ?_
      rintro en W3 ⟨hb4, (⟨hok, A3, n3, c3, rfl, hm3⟩ | ⟨hno, A3, c3, rfl⟩)⟩
      · clear hins
        rw [Int.toNat_natCast] at hm3
        have HR := Lib.hid (show ap1 s e = (⟨setO s.objs i 3 d, updL (updL s.lists b l1) d (insL l1 f i), s.pl, s.gm⟩, 0) from by
          rw [HMv.out, HInto.out, if_neg (by have h := HnI.out; unfold Within at hok; omega)])
        have HM3 := Lib.hid (HM2.out.keep hb4)
        have HS1 := Lib.hid (HMi2.out.keep hb4)
        have HS3 := Lib.hid (show SlR W3 w.heap.size ⟨A3, n3, c3⟩ (insL l1 f i) from let h := hm3.base_le hbW2.size; ⟨h.1, h.2.1, h.2.2⟩)
        have HV3 := Lib.hid (HV2.out.keep hg2 hb4)
        have hg3 : ge < W3.heap.size := Nat.lt_of_lt_of_le hg2 hb4.size
        have hbW3 := keepB hb4 hbW2
        have HW3 := Lib.hid (show ∀ y ∈ insL l1 f i, N64 y from fun y hy => by
          rcases mem_insL hy with h | h
          · rw [h]; exact ⟨by omega, by omega⟩
          · exact hwf1 y h)
        have HW1 := Lib.hid hwf1
        clear hok hm3 hwf1 q1 q2 q4 q5
        obtain ⟨_, q2, q4⟩ : True ∧ _ ∧ _ := ⟨trivial, HV3.out.b, HV3.out.d⟩
        obtain ⟨A9, n9, c9, _, k9, f9, _, _, _⟩ := HM3.out.list hb
        go_upto_region 12 with fail
        clear hdd
        go_region
        go_upto_region 13 with fail
        clear k9 f9 q2 q4
        obtain ⟨W4, hW4⟩ : ∃ W4, W4 = (W3.setCell ⟨g, 1 + b, none⟩ (.slice A1 n1 c1)).drew := ⟨_, rfl⟩
        have hst : Stay g W3 W4 := by rw [hW4]; exact ((Stay.refl g W3).drew).set_ _ _
        have HM4 := Lib.hid (show MidL w g s ⟨A, n, c⟩ (updL s.lists b l1) (updS L b ⟨A1, n1, c1⟩) W4 by
          rw [hW4]
          exact (HM3.out.keep ((Below.refl _ _).drew)).set_ (W := W3.drew) hb (HS1.out.keep ((Below.refl _ _).drew)) hgl HW1.out)
        have HV4 := Lib.hid (show EvN W4 ge i b k d f by rw [hW4]; exact (HV3.out.keep hg3 ((Below.refl _ _).drew)).set_ hne)
        have HS4 := Lib.hid (HS3.out.stayX hgl hst)
        have hg4 : ge < W4.heap.size := Nat.lt_of_lt_of_le hg3 hst.size
        rw [← hW4]
        clear hW4 hst HM3 HV3 HS3 HS1
        obtain ⟨A8, n8, c8, _, k8, f8, _, _, _⟩ := HM4.out.list hd
        obtain ⟨_, q4⟩ : True ∧ _ := ⟨trivial, HV4.out.d⟩
        go_region
        go_upto_region 14 with fail
        clear k8 f8 q4
        obtain ⟨W5, hW5⟩ : ∃ W5, W5 = (W4.setCell ⟨g, 1 + d, none⟩ (.slice A3 n3 c3)).drew := ⟨_, rfl⟩
        have hst : Stay g W4 W5 := by rw [hW5]; exact ((Stay.refl g W4).drew).set_ _ _
        have HM5 := Lib.hid (show MidL w g s ⟨A, n, c⟩ (updL (updL s.lists b l1) d (insL l1 f i)) (updS (updS L b ⟨A1, n1, c1⟩) d ⟨A3, n3, c3⟩) W5 by
          rw [hW5]
          exact (HM4.out.keep ((Below.refl _ _).drew)).set_ (W := W4.drew) hd (HS4.out.keep ((Below.refl _ _).drew)) hgl HW3.out)
        obtain ⟨_, q1, q4⟩ : True ∧ W5.cell? ⟨ge, 1, none⟩ = _ ∧ W5.cell? ⟨ge, 4, none⟩ = _ := by
          have h : EvN W5 ge i b k d f := by rw [hW5]; exact (HV4.out.keep hg4 ((Below.refl _ _).drew)).set_ hne
          exact ⟨trivial, h.a, h.d⟩
        rw [← hW5]
        clear hW5 hst HM4 HV4 HS4
        have hpt := put_code ⟨s.objs, updL (updL s.lists b l1) d (insL l1 f i), s.pl, s.gm⟩ ⟨A, n, c⟩ (updS (updS L b ⟨A1, n1, c1⟩) d ⟨A3, n3, c3⟩) g i 3 (d : Int) W5 HM5.out.a HM5.out.x (by have := HN.out; show i < s.objs.length; omega) (by omega) (by have := HN.out; show s.objs.length ≤ 1000000; omega) ⟨by omega, by omega⟩
        rw [show ((3 : Nat) : Int) = 3 from rfl] at hpt
        go_wp2_with fail
        refine hpt.mono ?_
        rintro en W6 ⟨O6, rfl, ha6, hx6, hs6⟩
        clear hpt
        go_wp2_with fail
        go_ret
        rw [HR.out]
        exact DP.yes (O := O6) (L := updS (updS L b ⟨A1, n1, c1⟩) d ⟨A3, n3, c3⟩) (t := ⟨setO s.objs i 3 d, updL (updL s.lists b l1) d (insL l1 f i), s.pl, s.gm⟩) ha6 hx6 (HM5.out.s.trans hs6)
      · clear hins
        have HR := Lib.hid (show ap1 s e = (sT0, 1) from by
          rw [HMv.out, HInto.out, if_pos (by have h := HnI.out; unfold Within at hno; omega)])
        have hbW3 := keepB hb4 hbW2
        clear hno hb4 q1 q2 q4 q5 hdd
        rw [errV_err (show (1 : Int) ≠ 0 by decide)]
        go_wp2_with fail
        go_ret
        rw [HR.out]
        exact DP.no (r := (sT0, 1)) (by decide) HA.out HX.out hbW3
    · have hdd : ((d : Int) == (b : Int)) = false := beq_eq_false_iff_ne.2 (by omega)
      have HInto := Lib.hid (show mv1 s e d = s.lists d from HMe.out.trans (if_neg hdb))
      have hins := insert_code Ad nd cd (s.lists d) (f : Int) (i : Int) W2 ⟨HNd2.out, hcd, hfd, hwd⟩
      have hnI : nd = (s.lists d).length := HNd2.out.len.symm
      clear hdb
      have HnI := Lib.hid hnI
      clear hnI
      go_wp2_with fail
      refine hins.mono ?_
      rintro en W3 ⟨hb4, (⟨hok, A3, n3, c3, rfl, hm3⟩ | ⟨hno, A3, c3, rfl⟩)⟩
      · clear hins
        rw [Int.toNat_natCast] at hm3
        have HR := Lib.hid (show ap1 s e = (⟨setO s.objs i 3 d, updL (updL s.lists b l1) d (insL (s.lists d) f i), s.pl, s.gm⟩, 0) from by
          rw [HMv.out, HInto.out, if_neg (by have h := HnI.out; unfold Within at hok; omega)])
        have HM3 := Lib.hid (HM2.out.keep hb4)
        have HS1 := Lib.hid (HMi2.out.keep hb4)
        have HS3 := Lib.hid (show SlR W3 w.heap.size ⟨A3, n3, c3⟩ (insL (s.lists d) f i) from let h := hm3.base_le hbW2.size; ⟨h.1, h.2.1, h.2.2⟩)
        have HV3 := Lib.hid (HV2.out.keep hg2 hb4)
        have hg3 : ge < W3.heap.size := Nat.lt_of_lt_of_le hg2 hb4.size
        have hbW3 := keepB hb4 hbW2
        have HW3 := Lib.hid (show ∀ y ∈ insL (s.lists d) f i, N64 y from fun y hy => by
          rcases mem_insL hy with h | h
          · rw [h]; exact ⟨by omega, by omega⟩
          · exact hwd y h)
        have HW1 := Lib.hid hwf1
        clear hok hm3 hwf1 q1 q2 q4 q5
        obtain ⟨_, q2, q4⟩ : True ∧ _ ∧ _ := ⟨trivial, HV3.out.b, HV3.out.d⟩
        obtain ⟨A9, n9, c9, _, k9, f9, _, _, _⟩ := HM3.out.list hb
        go_upto_region 12 with fail
        clear hdd
        go_region
        go_upto_region 13 with fail
        clear k9 f9 q2 q4
        obtain ⟨W4, hW4⟩ : ∃ W4, W4 = (W3.setCell ⟨g, 1 + b, none⟩ (.slice A1 n1 c1)).drew := ⟨_, rfl⟩
        have hst : Stay g W3 W4 := by rw [hW4]; exact ((Stay.refl g W3).drew).set_ _ _
        have HM4 := Lib.hid (show MidL w g s ⟨A, n, c⟩ (updL s.lists b l1) (updS L b ⟨A1, n1, c1⟩) W4 by
          rw [hW4]
          exact (HM3.out.keep ((Below.refl _ _).drew)).set_ (W := W3.drew) hb (HS1.out.keep ((Below.refl _ _).drew)) hgl HW1.out)
        have HV4 := Lib.hid (show EvN W4 ge i b k d f by rw [hW4]; exact (HV3.out.keep hg3 ((Below.refl _ _).drew)).set_ hne)
        have HS4 := Lib.hid (HS3.out.stayX hgl hst)
        have hg4 : ge < W4.heap.size := Nat.lt_of_lt_of_le hg3 hst.size
        rw [← hW4]
        clear hW4 hst HM3 HV3 HS3 HS1
        obtain ⟨A8, n8, c8, _, k8, f8, _, _, _⟩ := HM4.out.list hd
        obtain ⟨_, q4⟩ : True ∧ _ := ⟨trivial, HV4.out.d⟩
        go_region
        go_upto_region 14 with fail
        clear k8 f8 q4
        obtain ⟨W5, hW5⟩ : ∃ W5, W5 = (W4.setCell ⟨g, 1 + d, none⟩ (.slice A3 n3 c3)).drew := ⟨_, rfl⟩
        have hst : Stay g W4 W5 := by rw [hW5]; exact ((Stay.refl g W4).drew).set_ _ _
        have HM5 := Lib.hid (show MidL w g s ⟨A, n, c⟩ (updL (updL s.lists b l1) d (insL (s.lists d) f i)) (updS (updS L b ⟨A1, n1, c1⟩) d ⟨A3, n3, c3⟩) W5 by
          rw [hW5]
          exact (HM4.out.keep ((Below.refl _ _).drew)).set_ (W := W4.drew) hd (HS4.out.keep ((Below.refl _ _).drew)) hgl HW3.out)
        obtain ⟨_, q1, q4⟩ : True ∧ W5.cell? ⟨ge, 1, none⟩ = _ ∧ W5.cell? ⟨ge, 4, none⟩ = _ := by
          have h : EvN W5 ge i b k d f := by rw [hW5]; exact (HV4.out.keep hg4 ((Below.refl _ _).drew)).set_ hne
          exact ⟨trivial, h.a, h.d⟩
        rw [← hW5]
        clear hW5 hst HM4 HV4 HS4
        have hpt := put_code ⟨s.objs, updL (updL s.lists b l1) d (insL (s.lists d) f i), s.pl, s.gm⟩ ⟨A, n, c⟩ (updS (updS L b ⟨A1, n1, c1⟩) d ⟨A3, n3, c3⟩) g i 3 (d : Int) W5 HM5.out.a HM5.out.x (by have := HN.out; show i < s.objs.length; omega) (by omega) (by have := HN.out; show s.objs.length ≤ 1000000; omega) ⟨by omega, by omega⟩
        rw [show ((3 : Nat) : Int) = 3 from rfl] at hpt
        go_wp2_with fail
        refine hpt.mono ?_
        rintro en W6 ⟨O6, rfl, ha6, hx6, hs6⟩
        clear hpt
        go_wp2_with fail
        go_ret
        rw [HR.out]
        exact DP.yes (O := O6) (L := updS (updS L b ⟨A1, n1, c1⟩) d ⟨A3, n3, c3⟩) (t := ⟨setO s.objs i 3 d, updL (updL s.lists b l1) d (insL (s.lists d) f i), s.pl, s.gm⟩) ha6 hx6 (HM5.out.s.trans hs6)
      · clear hins
        have HR := Lib.hid (show ap1 s e = (sT0, 1) from by
          rw [HMv.out, HInto.out, if_pos (by have h := HnI.out; unfold Within at hno; omega)])
        have hbW3 := keepB hb4 hbW2
        clear hno hb4 q1 q2 q4 q5 hdd
        rw [errV_err (show (1 : Int) ≠ 0 by decide)]
        go_wp2_with fail
        go_ret
        rw [HR.out]
        exact DP.no (r := (sT0, 1)) (by decide) HA.out HX.out hbW3
  · clear hrm
    rw [errV_err (show (1 : Int) ≠ 0 by decide)]
    go_wp2_with fail
    have hB9 := keepB hb2 hHeld
    refine hK.out _ _ hB9 (fun _ => ?_)
    clear hK K
    try simp only [Act.put, List.setIfInBounds_toArray, List.set_cons_zero, List.set_cons_succ]
    refine anyH_rebase hB9 (fun hHeld => ?_)
    refine wpAnyH_take (i := 10) (v := ?_) rfl (by kernel_rfl) (by kernel_rfl) (by kernel_rfl) (fun _ _ _ h => h) (Or.inl ⟨by rfl, ?_⟩) hHeld ?_
    rotate_left
    · (intro w hSw; go_simp; (try with_reducible rfl))
    simp only [Act.put, List.getElem_toArray, List.getElem_cons_zero, List.getElem_cons_succ, List.setIfInBounds_toArray, List.set_cons_zero, List.set_cons_succ]
    refine wpAnyH_take (i := 11) (v := ?_) rfl (by kernel_rfl) (by kernel_rfl) (by kernel_rfl) (fun _ _ _ h => h) (Or.inl ⟨by rfl, ?_⟩) hHeld ?_
    rotate_left
    · (intro w hSw; go_simp; (try with_reducible rfl))
    simp only [Act.put, List.getElem_toArray, List.getElem_cons_zero, List.getElem_cons_succ, List.setIfInBounds_toArray, List.set_cons_zero, List.set_cons_succ]
    refine wpAnyH_take (i := 12) (v := ?_) rfl (by kernel_rfl) (by kernel_rfl) (by kernel_rfl) (fun _ _ _ h => h) (Or.inl ⟨by rfl, ?_⟩) hHeld ?_
    rotate_left
    · (intro w hSw; go_simp; (try with_reducible rfl))
    simp only [Act.put, List.getElem_toArray, List.getElem_cons_zero, List.getElem_cons_succ, List.setIfInBounds_toArray, List.set_cons_zero, List.set_cons_succ]
    refine wpAnyH_take (i := 13) (v := ?_) rfl (by kernel_rfl) (by kernel_rfl) (by kernel_rfl) (fun _ _ _ h => h) (Or.inl ⟨by rfl, ?_⟩) hHeld ?_
    rotate_left
    · (intro w hSw; go_simp; (try with_reducible rfl))
    simp only [Act.put, List.getElem_toArray, List.getElem_cons_zero, List.getElem_cons_succ, List.setIfInBounds_toArray, List.set_cons_zero, List.set_cons_succ]
    refine wpAnyH_take (i := 14) (v := ?_) rfl (by kernel_rfl) (by kernel_rfl) (by kernel_rfl) (fun _ _ _ h => h) (Or.inl ⟨by rfl, ?_⟩) hHeld ?_
    rotate_left
    · (intro w hSw; go_simp; (try with_reducible rfl))
    simp only [Act.put, List.getElem_toArray, List.getElem_cons_zero, List.getElem_cons_succ, List.setIfInBounds_toArray, List.set_cons_zero, List.set_cons_succ]
    refine wpAnyH_take (i := 15) (v := ?_) rfl (by kernel_rfl) (by kernel_rfl) (by kernel_rfl) (fun _ _ _ h => h) (Or.inl ⟨by rfl, ?_⟩) hHeld ?_
    rotate_left
    · (intro w hSw; go_simp; (try with_reducible rfl))
    simp only [Act.put, List.getElem_toArray, List.getElem_cons_zero, List.getElem_cons_succ, List.setIfInBounds_toArray, List.set_cons_zero, List.set_cons_succ]
    refine wpAnyH_take (i := 16) (v := ?_) rfl (by kernel_rfl) (by kernel_rfl) (by kernel_rfl) (fun _ _ _ h => h) (Or.inl ⟨by rfl, ?_⟩) hHeld ?_
    rotate_left
    · (intro w hSw; go_simp; (try with_reducible rfl))
    simp only [Act.put, List.getElem_toArray, List.getElem_cons_zero, List.getElem_cons_succ, List.setIfInBounds_toArray, List.set_cons_zero, List.set_cons_succ]
    refine wpAnyH_done (by kernel_rfl) ?_ _
    have HR := Lib.hid (show ap1 s e = (sT0, 20) from by
      obtain ⟨h1, h2, h3, h4⟩ := HEV.out
      have h5 := HIA.out
      have h7 := HN.out
      have h := (HM0.out.x.now.l b hb).len
      rw [hLb] at h
      have h8 : (s.lists b).length = nb := h
      unfold ap1
      unfold Within at hno
      rw [if_neg (by omega), if_pos (.inl (by rw [h1, h2, Int.toNat_natCast, h8]; omega))])
    have hbW1 := keepB hB9 hbW
    clear hno hHeld
    go_wp2_with fail
    go_ret
    rw [HR.out]
    exact DP.no (r := (sT0, 20)) (by decide) HA.out HX.out hbW1
end Go.Proofs.Ythedopnhhanknaa
namespace Go.Proofs.Ythedopnhhanknaa
open Go.RowKit Ex
set_option maxRecDepth 100000
theorem dp_pl {w W : World} {g : Nat} {s : StT} {O : SlT} {L : Nat → SlT} {v : Int} {j : Nat} (ha : StAt w g (stC O L s.pl s.gm)) (hx : ReadsX g w (stC O L s.pl s.gm) s O L) (hb : Below w.heap.size w W) (hj : j < 18) (hv : N64 v) :
    DP w g s (⟨s.objs, s.lists, updI s.pl j v, s.gm⟩, 0) (.returned .nilIface) (W.setCell ⟨g, 12 + j, none⟩ (.int .i64 v)) := by
  have hs : Stay g w (W.setCell ⟨g, 12 + j, none⟩ (.int .i64 v)) := (Stay.of hb).set_ _ _
  refine DP.yes (O := O) (L := L) ?_ ((hx.stay hs).nums (fun i hi => ?_) hx.now.gw) hs
  · unfold StAt
    rw [heap_setCell_same W g (12 + j) _ _ _ (ha.keep hb), stC_set_pl _ _ _ _ hj]
  · show N64 (updI s.pl j v i)
    unfold updI
    split
    · exact hv
    · exact hx.now.pw i hi
theorem dp_gm {w W : World} {g : Nat} {s : StT} {O : SlT} {L : Nat → SlT} {v : Int} {j : Nat} (ha : StAt w g (stC O L s.pl s.gm)) (hx : ReadsX g w (stC O L s.pl s.gm) s O L) (hb : Below w.heap.size w W) (hj : j < 7) (hv : N64 v) :
    DP w g s (⟨s.objs, s.lists, s.pl, updI s.gm j v⟩, 0) (.returned .nilIface) (W.setCell ⟨g, 30 + j, none⟩ (.int .i64 v)) := by
  have hs : Stay g w (W.setCell ⟨g, 30 + j, none⟩ (.int .i64 v)) := (Stay.of hb).set_ _ _
  refine DP.yes (O := O) (L := L) ?_ ((hx.stay hs).nums hx.now.pw (fun i hi => ?_)) hs
  · unfold StAt
    rw [heap_setCell_same W g (30 + j) _ _ _ (ha.keep hb), stC_set_gm _ _ _ _ hj]
  · show N64 (updI s.gm j v i)
    unfold updI
    split
    · exact hv
    · exact hx.now.gw i hi
theorem DP.errD {w w' : World} {g : Nat} {s : StT} {r : StT × Int} {en : Ending} (h : DP w g s r en w') (e : EvT) (hr : applyS s e = r) : EvDP w g s e en w' := by
  subst hr
  exact h
set_option linter.unusedSimpArgs false in
set_option maxHeartbeats 0 in
theorem do_code (s : StT) (O : SlT) (L : Nat → SlT) (e : EvT) (g : Nat) (w : World) (ha : StAt w g (stC O L s.pl s.gm)) (hx : ReadsX g w (stC O L s.pl s.gm) s O L) (hn : s.objs.length ≤ 1000) (hll : ∀ z < 11, (s.lists z).length ≤ 1000) (hi : EvI e) :
    Calls Try.prog 16 #[.pointer (some ⟨g, 0, none⟩), evV e] w (EvDP w g s e) := by
  have hgl := ha.lt
  have HX := Lib.hid hx
  have HA := Lib.hid ha
  have HI := Lib.hid hi
  have HLL := Lib.hid hll
  have HNO := Lib.hid hn
  have hck := fun W => check_code e W
  obtain ⟨r, hr⟩ : ∃ r, r = chkE e := ⟨_, rfl⟩
  rw [← hr] at hck
  have HR := Lib.hid hr
  clear ha hx hi hll hn hr
  go_enter Try.func16, Try.ntmps16
  go_upto_region 1 with fail
  obtain ⟨w1, hw1⟩ : ∃ w1, w1 = w.alloc (.cells (evC e) 31) := ⟨_, rfl⟩
  have hrow : EvB w1 w.heap.size e := by rw [hw1]; exact heap_alloc_new _ _
  have hb1 : Below w.heap.size w w1 := by rw [hw1]; exact (Below.refl _ _).alloc (Nat.le_refl _) _
  show Code.wp _ _ _ _ (w.alloc (.cells (evC e) 31))
  rw [← hw1]
  clear hw1
  have hg1 := hrow.lt
  obtain ⟨ge, hge⟩ : ∃ g, g = w.heap.size := ⟨_, rfl⟩
  rw [← hge] at hrow hg1 ⊢
  have hne : ge ≠ g := by omega
  clear hge
  have hsE := ev_size e
  obtain ⟨es, hes⟩ : ∃ es, es = evC e := ⟨_, rfl⟩
  have HES := Lib.hid hes
  have HEE := Lib.hid (show evV e = .agg es by rw [hes]; rfl)
  rw [HEE.out] at hck
  have hrow1 : w1.heap[ge]? = some (.cells es 31 (0, 0)) := by rw [hes]; exact hrow
  rw [← hes] at hsE
  clear hes
  go_wp2_with (refine wpList_load_row rfl 31 (.tmp 3) rfl ge rfl 31 _ (0, 0) _ hrow1 Try.underlying31 rfl hsE ?_)
  refine (hck _).mono ?_
  rintro en w2 ⟨rfl, hb2⟩
  clear hck hrow1
  have hrow2 : w2.heap[ge]? = some (.cells es 31 (0, 0)) := by rw [HES.out]; exact hrow.keep hb2
  have hbw2 := keepB hb2 hb1
  clear hrow hb1 hb2
  by_cases hr0 : r = 0
  case neg =>
    have HRA := Lib.hid (show applyS s e = (sT0, r) by unfold applyS; rw [← HR.out, if_pos hr0])
    have HR0 := Lib.hid hr0
    rw [errV_err hr0]
    clear hr0
    go_wp2_with fail
    go_ret
    refine DP.errD ?_ e HRA.out
    have h := DP.no (r := (sT0, r)) HR0.out HA.out HX.out hbw2
    rw [errV_err HR0.out] at h
    exact h
  subst hr0
  rw [errV_nil]
  have hc := HR.out.symm
  have HAp := Lib.hid (applyS_ok (s := s) hc)
  have HK := Lib.hid (chkE_kind hc)
  clear hc
  have q0 : w2.cell? ⟨ge, 0, none⟩ = some (.int .i64 e.k) := (show EvB w2 ge e by rw [HES.out] at hrow2; exact hrow2).cells.1
  have HA2 := Lib.hid (HA.out.keep hbw2)
  have HX2 := Lib.hid (HX.out.stay (Stay.of hbw2))
  go_upto_region 6 with fail
  rcases HK.out with ⟨hk, h1⟩ | ⟨hk, h1⟩ | ⟨hk, h1⟩ | ⟨hk, h1⟩ | ⟨hk, h1⟩ | ⟨hk, h1⟩
  · rw [hk] at q0
    have HKe := Lib.hid (show applyS s e = ap0 s e from by rw [HAp.out, hk]; rfl)
    have H1 := Lib.hid h1
    clear h1 hk
    have hct := make_code s O L g e w2 HA2.out HX2.out HNO.out HLL.out HI.out
    rw [HEE.out] at hct
    go_wp2_with (refine wpList_load_row rfl 31 (.tmp 3) rfl ge rfl 31 _ (0, 0) _ hrow2 Try.underlying31 rfl hsE ?_)
    refine hct.mono ?_
    rintro en w3 ⟨O3, L3, rfl, ha3, hx3, hs3⟩
    clear hct
    go_wp2_with fail
    go_ret
    exact DP.errD ⟨O3, L3, rfl, ha3, hx3, (Stay.of hbw2).trans hs3⟩ e HKe.out
  · rw [hk] at q0
    have HKe := Lib.hid (show applyS s e = ap5 s e from by rw [HAp.out, hk]; rfl)
    have H1 := Lib.hid h1
    clear h1 hk
    have hct := unmake_code s O L g e w2 HA2.out HX2.out HNO.out HLL.out HI.out
    rw [HEE.out] at hct
    go_wp2_with (refine wpList_load_row rfl 31 (.tmp 3) rfl ge rfl 31 _ (0, 0) _ hrow2 Try.underlying31 rfl hsE ?_)
    refine hct.mono ?_
    rintro en w3 ⟨O3, L3, rfl, ha3, hx3, hs3⟩
    clear hct
    go_wp2_with fail
    go_ret
    exact DP.errD ⟨O3, L3, rfl, ha3, hx3, (Stay.of hbw2).trans hs3⟩ e HKe.out
  · rw [hk] at q0
    have HKe := Lib.hid (show applyS s e = ap1 s e from by rw [HAp.out, hk]; rfl)
    have H1 := Lib.hid h1
    clear h1 hk
    have hct := move_obj_code s O L g e w2 HA2.out HX2.out HNO.out HLL.out HI.out H1.out.1 ⟨H1.out.2.1, H1.out.2.2.1⟩ H1.out.2.2.2.1 ⟨H1.out.2.2.2.2.1, H1.out.2.2.2.2.2.1⟩ H1.out.2.2.2.2.2.2
    rw [HEE.out] at hct
    go_wp2_with (refine wpList_load_row rfl 31 (.tmp 3) rfl ge rfl 31 _ (0, 0) _ hrow2 Try.underlying31 rfl hsE ?_)
    refine hct.mono ?_
    rintro en w3 ⟨O3, L3, rfl, ha3, hx3, hs3⟩
    clear hct
    go_wp2_with fail
    go_ret
    exact DP.errD ⟨O3, L3, rfl, ha3, hx3, (Stay.of hbw2).trans hs3⟩ e HKe.out
  · rw [hk] at q0
    have HKe := Lib.hid (show applyS s e = ap2 s e from by rw [HAp.out, hk]; rfl)
    have H1 := Lib.hid h1
    clear h1 hk
    have hct := seto_code s O L g e w2 HA2.out HX2.out HNO.out HI.out H1.out.2.1 ⟨H1.out.2.2.1, H1.out.2.2.2.1⟩
    rw [HEE.out] at hct
    go_wp2_with (refine wpList_load_row rfl 31 (.tmp 3) rfl ge rfl 31 _ (0, 0) _ hrow2 Try.underlying31 rfl hsE ?_)
    refine hct.mono ?_
    rintro en w3 ⟨O3, L3, rfl, ha3, hx3, hs3⟩
    clear hct
    go_wp2_with fail
    go_ret
    exact DP.errD ⟨O3, L3, rfl, ha3, hx3, (Stay.of hbw2).trans hs3⟩ e HKe.out
  · rw [hk] at q0
    have HKe := Lib.hid (show applyS s e = ap3 s e from by rw [HAp.out, hk]; rfl)
    obtain ⟨a, hia⟩ : ∃ i : Nat, e.a = (i : Int) := ⟨e.a.toNat, by omega⟩
    obtain ⟨b, hib⟩ : ∃ i : Nat, e.b = (i : Int) := ⟨e.b.toNat, by omega⟩
    have g0 : (0 : Int) ≤ (a : Int) := by omega
    have g1 : (a : Int) < 2 := by omega
    have g2 : (0 : Int) ≤ (b : Int) := by omega
    have g3 : (b : Int) < 9 := by omega
    have hj : a * 9 + b < 18 := by omega
    have HRow := Lib.hid (show EvB w2 ge e by rw [HES.out] at hrow2; exact hrow2)
    have hlt2 := HRow.out.lt
    obtain ⟨_, p1, p2, _, _, _⟩ := HRow.out.cells
    rw [hia] at p1
    rw [hib] at p2
    have HIA := Lib.hid hia
    have HIB := Lib.hid hib
    clear h1 hk hia hib
    have p1b : ∀ W, Stay g w2 W → W.cell? ⟨ge, 1, none⟩ = some (.int .i64 (a : Int)) := fun W hW => (World.cell?_of_block (hW.block ge hlt2 hne)).trans p1
    have p2b : ∀ W, Stay g w2 W → W.cell? ⟨ge, 2, none⟩ = some (.int .i64 (b : Int)) := fun W hW => (World.cell?_of_block (hW.block ge hlt2 hne)).trans p2
    clear p1 p2
    go_upto_region 16 with fail
    refine region_stay g (by kernel_rfl) (fun hHeld => ?_)
    refine wpAnyH_take (i := 0) (v := ?_) rfl (by kernel_rfl) (by kernel_rfl) (by kernel_rfl) (fun _ _ _ h => h) (Or.inl ⟨by rfl, ?_⟩) hHeld ?_
    rotate_left
    · (intro w hSw; go_simp; (try with_reducible rfl))
    simp only [Act.put, List.getElem_toArray, List.getElem_cons_zero, List.getElem_cons_succ, List.setIfInBounds_toArray, List.set_cons_zero, List.set_cons_succ]
    refine wpAnyH_take (i := 1) (v := ?_) rfl (by kernel_rfl) (by kernel_rfl) (by kernel_rfl) (fun _ _ _ h => h) (Or.inl ⟨by rfl, ?_⟩) hHeld ?_
    rotate_left
    · (intro w hSw; go_simp; (try with_reducible rfl))
    simp only [Act.put, List.getElem_toArray, List.getElem_cons_zero, List.getElem_cons_succ, List.setIfInBounds_toArray, List.set_cons_zero, List.set_cons_succ]
    refine wpAnyH_take (i := 2) (v := ?_) rfl (by kernel_rfl) (by kernel_rfl) (by kernel_rfl) (fun _ _ _ h => h) (Or.inl ⟨by rfl, ?_⟩) hHeld ?_
    rotate_left
    · (intro w hSw; go_simp; (try with_reducible rfl))
    simp only [Act.put, List.getElem_toArray, List.getElem_cons_zero, List.getElem_cons_succ, List.setIfInBounds_toArray, List.set_cons_zero, List.set_cons_succ]
    refine wpAnyH_take (i := 3) (v := ?_) rfl (by kernel_rfl) (by kernel_rfl) (by kernel_rfl) (fun _ _ _ h => h) (Or.inl ⟨by rfl, ?_⟩) hHeld ?_
    rotate_left
    · (intro w hSw; go_simp; (try with_reducible rfl))
    simp only [Act.put, List.getElem_toArray, List.getElem_cons_zero, List.getElem_cons_succ, List.setIfInBounds_toArray, List.set_cons_zero, List.set_cons_succ]
    refine wpAnyH_take (i := 4) (v := ?_) rfl (by kernel_rfl) (by kernel_rfl) (by kernel_rfl) (fun _ _ _ h => h) (Or.inl ⟨by rfl, ?_⟩) hHeld ?_
    rotate_left
    · (intro w hSw; go_simp; (try with_reducible rfl))
    simp only [Act.put, List.getElem_toArray, List.getElem_cons_zero, List.getElem_cons_succ, List.setIfInBounds_toArray, List.set_cons_zero, List.set_cons_succ]
    refine wpAnyH_take (i := 5) (v := ?_) rfl (by kernel_rfl) (by kernel_rfl) (by kernel_rfl) (fun _ _ _ h => h) (Or.inl ⟨by rfl, ?_⟩) hHeld ?_
    rotate_left
    · (intro w hSw; go_simp; (try with_reducible rfl))
    simp only [Act.put, List.getElem_toArray, List.getElem_cons_zero, List.getElem_cons_succ, List.setIfInBounds_toArray, List.set_cons_zero, List.set_cons_succ]
    refine wpAnyH_take (i := 6) (v := ?_) rfl (by kernel_rfl) (by kernel_rfl) (by kernel_rfl) (fun _ _ _ h => h) (Or.inl ⟨by rfl, ?_⟩) hHeld ?_
    rotate_left
    · (intro w hSw; go_simp; (try with_reducible rfl))
    simp only [Act.put, List.getElem_toArray, List.getElem_cons_zero, List.getElem_cons_succ, List.setIfInBounds_toArray, List.set_cons_zero, List.set_cons_succ]
    refine wpAnyH_take (i := 7) (v := ?_) rfl (by kernel_rfl) (by kernel_rfl) (by kernel_rfl) (fun _ _ _ h => h) (Or.inl ⟨by rfl, ?_⟩) hHeld ?_
    rotate_left
    · (intro w hSw; go_simp; (try with_reducible rfl))
    simp only [Act.put, List.getElem_toArray, List.getElem_cons_zero, List.getElem_cons_succ, List.setIfInBounds_toArray, List.set_cons_zero, List.set_cons_succ]
    refine wpAnyH_take (i := 8) (v := ?_) rfl (by kernel_rfl) (by kernel_rfl) (by kernel_rfl) (fun _ _ _ h => h) (Or.inl ⟨by rfl, ?_⟩) hHeld ?_
    rotate_left
    · (intro w hSw; go_simp; (try with_reducible rfl))
    simp only [Act.put, List.getElem_toArray, List.getElem_cons_zero, List.getElem_cons_succ, List.setIfInBounds_toArray, List.set_cons_zero, List.set_cons_succ]
    refine wpAnyH_take (i := 9) (v := .agg es) rfl (by kernel_rfl) (by kernel_rfl) (by kernel_rfl) (fun _ _ _ h => h) (yields_ev (by rfl) (.tmp 3) rfl ge rfl es (fun W hW => by rw [HES.out]; exact (hW.block ge hlt2 hne).trans HRow.out) (by rw [HES.out]; exact ev_size e)) hHeld ?_
    simp only [Act.put, List.getElem_toArray, List.getElem_cons_zero, List.getElem_cons_succ, List.setIfInBounds_toArray, List.set_cons_zero, List.set_cons_succ]
    obtain ⟨x, hx⟩ : ∃ x, x = s.pl (a * 9 + b) := ⟨_, rfl⟩
    have hd2 : Below w2.heap.size w2 w2.drew := (Below.refl _ _).drew
    have hc : w2.drew.cell? ⟨g, 12 + (a * 9 + b), none⟩ = some (.int .i64 x) := by rw [hx]; exact ((HA2.out.keep hd2).cell _).trans (stC_pl _ _ _ _ hj)
    have hf := frozen_of_row w2.drew g (12 + (a * 9 + b)) _ _ (HA2.out.keep hd2)
    have hsc := set_code g (12 + (a * 9 + b)) x e w2.drew hc hf (HA2.out.keep hd2).lt
    rw [HEE.out, show 12 + (a * 9 + b) = 12 + a * 9 + b by omega] at hsc
    have HXx := Lib.hid hx
    clear hx hc hf p1b p2b
    refine wpAnyH_ready (rs := [10]) (by kernel_rfl) (by simp) ?_
    refine AllReadyH.cons rfl (fun K hK => ?_) AllReadyH.nil
    simp only [List.getElem_toArray, List.getElem_cons_zero, List.getElem_cons_succ]
    go_simp
    refine hsc.mono ?_
    rintro en w4 ⟨w3, hb3, (⟨hxc, rfl, rfl⟩ | ⟨hxc, rfl, rfl⟩)⟩
    · clear hsc
      have hbw3 := keepB hb3 (keepB hd2 hbw2)
      have HF := Lib.hid (show EvDP w g s e (.returned .nilIface) (w3.setCell ⟨g, 12 + (a * 9 + b), none⟩ (.int .i64 e.d)) from
        DP.errD (dp_pl HA.out HX.out hbw3 hj HI.out.d) e (by
          rw [HKe.out]
          unfold ap3
          rw [HIA.out, HIB.out, Int.toNat_natCast, Int.toNat_natCast, if_neg (by rw [← HXx.out]; exact fun h => h hxc)]))
      clear hxc
      rw [show 12 + (a * 9 + b) = 12 + a * 9 + b by omega] at HF
      refine hK.out _ _ ((hHeld.then hb3).set_ _ _) (fun _ => ?_)
      clear hK K
      try simp only [Act.put, List.setIfInBounds_toArray, List.set_cons_zero, List.set_cons_succ]
      have hHeld := (hHeld.then hb3).set_ (12 + a * 9 + b) (.int .i64 e.d)
      refine wpAnyH_take (i := 11) (v := ?_) rfl (by kernel_rfl) (by kernel_rfl) (by kernel_rfl) (fun _ _ _ h => h) (Or.inl ⟨by rfl, ?_⟩) hHeld ?_
      rotate_left
      · (intro w hSw; go_simp; (try with_reducible rfl))
      simp only [Act.put, List.getElem_toArray, List.getElem_cons_zero, List.getElem_cons_succ, List.setIfInBounds_toArray, List.set_cons_zero, List.set_cons_succ]
      refine wpAnyH_done (by kernel_rfl) ?_ _
      go_wp2_with fail
      go_ret
      exact HF.out
    · clear hsc
      have hbw3 := keepB hb3 (keepB hd2 hbw2)
      have HF := Lib.hid (show EvDP w g s e (.returned (errV 20)) w4 from
        DP.errD (DP.no (r := (sT0, 20)) (by decide) HA.out HX.out hbw3) e (by
          rw [HKe.out]
          unfold ap3
          rw [HIA.out, HIB.out, Int.toNat_natCast, Int.toNat_natCast, if_pos (by rw [← HXx.out]; exact hxc)]))
      clear hxc
      refine hK.out _ _ (hHeld.then hb3) (fun _ => ?_)
      clear hK K
      try simp only [Act.put, List.setIfInBounds_toArray, List.set_cons_zero, List.set_cons_succ]
      have hHeld := hHeld.then hb3
      refine wpAnyH_take (i := 11) (v := ?_) rfl (by kernel_rfl) (by kernel_rfl) (by kernel_rfl) (fun _ _ _ h => h) (Or.inl ⟨by rfl, ?_⟩) hHeld ?_
      rotate_left
      · (intro w hSw; go_simp; (try with_reducible rfl))
      simp only [Act.put, List.getElem_toArray, List.getElem_cons_zero, List.getElem_cons_succ, List.setIfInBounds_toArray, List.set_cons_zero, List.set_cons_succ]
      refine wpAnyH_done (by kernel_rfl) ?_ _
      go_wp2_with fail
      go_ret
      exact HF.out
  · rw [hk] at q0
    have HKe := Lib.hid (show applyS s e = ap4 s e from by rw [HAp.out, hk]; rfl)
    obtain ⟨b, hib⟩ : ∃ i : Nat, e.b = (i : Int) := ⟨e.b.toNat, by omega⟩
    have g2 : (0 : Int) ≤ (b : Int) := by omega
    have g3 : (b : Int) < 7 := by omega
    have hj : b < 7 := by omega
    have HRow := Lib.hid (show EvB w2 ge e by rw [HES.out] at hrow2; exact hrow2)
    have hlt2 := HRow.out.lt
    obtain ⟨_, _, p2, _, _, _⟩ := HRow.out.cells
    rw [hib] at p2
    have HIB := Lib.hid hib
    clear h1 hk hib
    have p2b : ∀ W, Stay g w2 W → W.cell? ⟨ge, 2, none⟩ = some (.int .i64 (b : Int)) := fun W hW => (World.cell?_of_block (hW.block ge hlt2 hne)).trans p2
    clear p2
    go_upto_region 17 with fail
    refine region_stay g (by kernel_rfl) (fun hHeld => ?_)
    refine wpAnyH_take (i := 0) (v := ?_) rfl (by kernel_rfl) (by kernel_rfl) (by kernel_rfl) (fun _ _ _ h => h) (Or.inl ⟨by rfl, ?_⟩) hHeld ?_
    rotate_left
    · (intro w hSw; go_simp; (try with_reducible rfl))
    simp only [Act.put, List.getElem_toArray, List.getElem_cons_zero, List.getElem_cons_succ, List.setIfInBounds_toArray, List.set_cons_zero, List.set_cons_succ]
    refine wpAnyH_take (i := 1) (v := ?_) rfl (by kernel_rfl) (by kernel_rfl) (by kernel_rfl) (fun _ _ _ h => h) (Or.inl ⟨by rfl, ?_⟩) hHeld ?_
    rotate_left
    · (intro w hSw; go_simp; (try with_reducible rfl))
    simp only [Act.put, List.getElem_toArray, List.getElem_cons_zero, List.getElem_cons_succ, List.setIfInBounds_toArray, List.set_cons_zero, List.set_cons_succ]
    refine wpAnyH_take (i := 2) (v := ?_) rfl (by kernel_rfl) (by kernel_rfl) (by kernel_rfl) (fun _ _ _ h => h) (Or.inl ⟨by rfl, ?_⟩) hHeld ?_
    rotate_left
    · (intro w hSw; go_simp; (try with_reducible rfl))
    simp only [Act.put, List.getElem_toArray, List.getElem_cons_zero, List.getElem_cons_succ, List.setIfInBounds_toArray, List.set_cons_zero, List.set_cons_succ]
    refine wpAnyH_take (i := 3) (v := ?_) rfl (by kernel_rfl) (by kernel_rfl) (by kernel_rfl) (fun _ _ _ h => h) (Or.inl ⟨by rfl, ?_⟩) hHeld ?_
    rotate_left
    · (intro w hSw; go_simp; (try with_reducible rfl))
    simp only [Act.put, List.getElem_toArray, List.getElem_cons_zero, List.getElem_cons_succ, List.setIfInBounds_toArray, List.set_cons_zero, List.set_cons_succ]
    refine wpAnyH_take (i := 4) (v := ?_) rfl (by kernel_rfl) (by kernel_rfl) (by kernel_rfl) (fun _ _ _ h => h) (Or.inl ⟨by rfl, ?_⟩) hHeld ?_
    rotate_left
    · (intro w hSw; go_simp; (try with_reducible rfl))
    simp only [Act.put, List.getElem_toArray, List.getElem_cons_zero, List.getElem_cons_succ, List.setIfInBounds_toArray, List.set_cons_zero, List.set_cons_succ]
    refine wpAnyH_take (i := 5) (v := ?_) rfl (by kernel_rfl) (by kernel_rfl) (by kernel_rfl) (fun _ _ _ h => h) (Or.inl ⟨by rfl, ?_⟩) hHeld ?_
    rotate_left
    · (intro w hSw; go_simp; (try with_reducible rfl))
    simp only [Act.put, List.getElem_toArray, List.getElem_cons_zero, List.getElem_cons_succ, List.setIfInBounds_toArray, List.set_cons_zero, List.set_cons_succ]
    refine wpAnyH_take (i := 6) (v := .agg es) rfl (by kernel_rfl) (by kernel_rfl) (by kernel_rfl) (fun _ _ _ h => h) (yields_ev (by rfl) (.tmp 3) rfl ge rfl es (fun W hW => by rw [HES.out]; exact (hW.block ge hlt2 hne).trans HRow.out) (by rw [HES.out]; exact ev_size e)) hHeld ?_
    simp only [Act.put, List.getElem_toArray, List.getElem_cons_zero, List.getElem_cons_succ, List.setIfInBounds_toArray, List.set_cons_zero, List.set_cons_succ]
    obtain ⟨x, hx⟩ : ∃ x, x = s.gm b := ⟨_, rfl⟩
    have hd2 : Below w2.heap.size w2 w2.drew := (Below.refl _ _).drew
    have hc : w2.drew.cell? ⟨g, 30 + b, none⟩ = some (.int .i64 x) := by rw [hx]; exact ((HA2.out.keep hd2).cell _).trans (stC_gm _ _ _ _ hj)
    have hf := frozen_of_row w2.drew g (30 + b) _ _ (HA2.out.keep hd2)
    have hsc := set_code g (30 + b) x e w2.drew hc hf (HA2.out.keep hd2).lt
    rw [HEE.out] at hsc
    have HXx := Lib.hid hx
    clear hx hc hf p2b
    refine wpAnyH_ready (rs := [7]) (by kernel_rfl) (by simp) ?_
    refine AllReadyH.cons rfl (fun K hK => ?_) AllReadyH.nil
    simp only [List.getElem_toArray, List.getElem_cons_zero, List.getElem_cons_succ]
    go_simp
    refine hsc.mono ?_
    rintro en w4 ⟨w3, hb3, (⟨hxc, rfl, rfl⟩ | ⟨hxc, rfl, rfl⟩)⟩
    · clear hsc
      have hbw3 := keepB hb3 (keepB hd2 hbw2)
      have HF := Lib.hid (show EvDP w g s e (.returned .nilIface) (w3.setCell ⟨g, 30 + b, none⟩ (.int .i64 e.d)) from
        DP.errD (dp_gm HA.out HX.out hbw3 hj HI.out.d) e (by
          rw [HKe.out]
          unfold ap4
          rw [HIB.out, Int.toNat_natCast, if_neg (by rw [← HXx.out]; exact fun h => h hxc)]))
      clear hxc
      refine hK.out _ _ ((hHeld.then hb3).set_ _ _) (fun _ => ?_)
      clear hK K
      try simp only [Act.put, List.setIfInBounds_toArray, List.set_cons_zero, List.set_cons_succ]
      have hHeld := (hHeld.then hb3).set_ (30 + b) (.int .i64 e.d)
      refine wpAnyH_take (i := 8) (v := ?_) rfl (by kernel_rfl) (by kernel_rfl) (by kernel_rfl) (fun _ _ _ h => h) (Or.inl ⟨by rfl, ?_⟩) hHeld ?_
      rotate_left
      · (intro w hSw; go_simp; (try with_reducible rfl))
      simp only [Act.put, List.getElem_toArray, List.getElem_cons_zero, List.getElem_cons_succ, List.setIfInBounds_toArray, List.set_cons_zero, List.set_cons_succ]
      refine wpAnyH_done (by kernel_rfl) ?_ _
      go_wp2_with fail
      go_ret
      exact HF.out
    · clear hsc
      have hbw3 := keepB hb3 (keepB hd2 hbw2)
      have HF := Lib.hid (show EvDP w g s e (.returned (errV 20)) w4 from
        DP.errD (DP.no (r := (sT0, 20)) (by decide) HA.out HX.out hbw3) e (by
          rw [HKe.out]
          unfold ap4
          rw [HIB.out, Int.toNat_natCast, if_pos (by rw [← HXx.out]; exact hxc)]))
      clear hxc
      refine hK.out _ _ (hHeld.then hb3) (fun _ => ?_)
      clear hK K
      try simp only [Act.put, List.setIfInBounds_toArray, List.set_cons_zero, List.set_cons_succ]
      have hHeld := hHeld.then hb3
      refine wpAnyH_take (i := 8) (v := ?_) rfl (by kernel_rfl) (by kernel_rfl) (by kernel_rfl) (fun _ _ _ h => h) (Or.inl ⟨by rfl, ?_⟩) hHeld ?_
      rotate_left
      · (intro w hSw; go_simp; (try with_reducible rfl))
      simp only [Act.put, List.getElem_toArray, List.getElem_cons_zero, List.getElem_cons_succ, List.setIfInBounds_toArray, List.set_cons_zero, List.set_cons_succ]
      refine wpAnyH_done (by kernel_rfl) ?_ _
      go_wp2_with fail
      go_ret
      exact HF.out
end Go.Proofs.Ythedopnhhanknaa
namespace Go.Proofs.Ythedopnhhanknaa
open Go.RowKit Ex
set_option maxRecDepth 100000
theorem own_zero (W : World) (base : Nat) : OwnS W base sT0 nilS (fun _ => nilS) :=
  ⟨rfl, obj_nil W base, fun z _ => (Own.nil W).base_le (Nat.le_refl _), fun y _ z _ _ j hj => by cases hj⟩
theorem ap_start2 (w : World) (cs : Array Value) (e : EvT) : ∃ w3, w3 = ((w.alloc (.cells cs 29)).alloc (.cells (evC e) 31)).alloc (.cells st0 29) ∧ Below w.heap.size w w3 ∧ StAt w3 w.heap.size cs ∧ EvB w3 (w.heap.size + 1) e ∧ StAt w3 (w.heap.size + 2) st0 := by
  have b1 : Below w.heap.size w (w.alloc (.cells cs 29)) := (Below.refl _ _).alloc (Nat.le_refl _) _
  have b2 : Below (w.alloc (.cells cs 29)).heap.size (w.alloc (.cells cs 29)) ((w.alloc (.cells cs 29)).alloc (.cells (evC e) 31)) := (Below.refl _ _).alloc (Nat.le_refl _) _
  have b3 : Below ((w.alloc (.cells cs 29)).alloc (.cells (evC e) 31)).heap.size ((w.alloc (.cells cs 29)).alloc (.cells (evC e) 31)) (((w.alloc (.cells cs 29)).alloc (.cells (evC e) 31)).alloc (.cells st0 29)) := (Below.refl _ _).alloc (Nat.le_refl _) _
  have h2 : EvB ((w.alloc (.cells cs 29)).alloc (.cells (evC e) 31)) (w.heap.size + 1) e := by
    have := heap_alloc_new (w.alloc (.cells cs 29)) (.cells (evC e) 31); rwa [World.size_alloc] at this
  have h3 : StAt (((w.alloc (.cells cs 29)).alloc (.cells (evC e) 31)).alloc (.cells st0 29)) (w.heap.size + 2) st0 := by
    have := StAt.new ((w.alloc (.cells cs 29)).alloc (.cells (evC e) 31)) st0; rwa [World.size_alloc, World.size_alloc] at this
  exact ⟨_, rfl, keepB b3 (keepB b2 b1), ((StAt.new w cs).keep b2).keep b3, h2.keep b3, h3⟩
set_option linter.unusedSimpArgs false in
set_option maxHeartbeats 0 in
theorem apply_code (s : StT) (O : SlT) (L : Nat → SlT) (cs : Array Value) (e : EvT) (w : World) (hR : ReadsS w.heap.size w cs s O L) (hn : s.objs.length ≤ 1000) (hll : ∀ z < 11, (s.lists z).length ≤ 1000) (hi : EvI e) :
    Calls Try.prog 10 #[.agg cs, evV e] w (EvAP w s e) := by
  have HI := Lib.hid hi
  have HLL := Lib.hid hll
  have HNO := Lib.hid hn
  have HRd := Lib.hid hR
  have hz := st0_is
  clear hi hll hn hR
  go_enter Try.func10, Try.ntmps10
  go_upto_region 1 with fail
  obtain ⟨w3, hw3, hb3, ha3, he3, hr3⟩ := ap_start2 w cs e
  show Code.wp _ _ _ _ (((w.alloc (.cells cs 29)).alloc (.cells (evC e) 31)).alloc (.cells st0 29))
  rw [← hw3]
  clear hw3
  obtain ⟨g, hg⟩ : ∃ g, g = w.heap.size := ⟨_, rfl⟩
  rw [← hg] at ha3 he3 hr3
  rw [← hg]
  obtain ⟨ge, hge⟩ : ∃ ge, ge = g + 1 := ⟨_, rfl⟩
  obtain ⟨gr, hgr⟩ : ∃ gr, gr = g + 1 + 1 := ⟨_, rfl⟩
  rw [← hge] at he3
  rw [show g + 2 = gr by omega] at hr3
  rw [← hgr, ← hge]
  have hneE : ge ≠ g := by omega
  have hneR : gr ≠ g := by omega
  have HG := Lib.hid (show g = w.heap.size ∧ ge = g + 1 ∧ gr = g + 2 by omega)
  clear hg hge hgr
  have HC := Lib.hid (show cs = stC O L s.pl s.gm from HRd.out.cs)
  have hX3 : ReadsX g w3 cs s O L := ReadsX.of (HRd.out.below hb3) (by have := HG.out; omega) hb3.size
  have hd := do_code s O L e g w3 (by rw [HC.out] at ha3; exact ha3) (by rw [HC.out] at hX3; exact hX3) HNO.out HLL.out HI.out
  have hsE := ev_size e
  obtain ⟨es, hes⟩ : ∃ es, es = evC e := ⟨_, rfl⟩
  rw [show evV e = .agg es by rw [hes]; rfl] at hd
  have hrow : w3.heap[ge]? = some (.cells es 31 (0, 0)) := by rw [hes]; exact he3
  rw [← hes] at hsE
  have HGL := Lib.hid (And.intro hr3.lt ha3.lt)
  clear hes hz he3 hX3 ha3
  go_wp2_with (refine wpList_load_row rfl 31 (.tmp 3) rfl ge rfl 31 _ (0, 0) _ hrow Try.underlying31 rfl hsE ?_)
  refine hd.mono ?_
  rintro en w4 ⟨O4, L4, rfl, ha4, hx4, hs4⟩
  clear hd hrow hsE
  have hr4 : w4.heap[gr]? = some (.cells st0 29 (0, 0)) := (hs4.block gr HGL.out.1 hneR).trans hr3
  have hbw4 : Below w.heap.size w w4 := hb3.trans (hs4.below hb3.size (by have := HG.out; omega))
  have hwr : w.heap.size ≤ gr := by have := HG.out; omega
  clear hr3
  by_cases hr0 : (applyS s e).2 = 0
  case neg =>
    have HB := Lib.hid (apply_bad hr0)
    have hsz0 := st0_size'
    have hone0 := st0_one'
    obtain ⟨r, hrr⟩ : ∃ r, r = (applyS s e).2 := ⟨_, rfl⟩
    have HE := Lib.hid hrr
    have HR0 := Lib.hid (show r ≠ 0 by rw [hrr]; exact hr0)
    rw [← hrr, errV_err HR0.out]
    clear hr0 hrr hx4 ha4
    go_wp2_with (first
      | (refine wpList_build0 rfl rfl ?_)
      | (refine wpList_store_row rfl 29 (.tmp 4) (.tmp 11) rfl gr _ rfl rfl 29 st0 hr4 hsz0 rfl hone0 ?_))
    refine bodyPost_ret (v := .tuple #[.agg st0, .iface 65 (.int .i64 r)]) ?_ rfl ⟨st0, nilS, fun _ => nilS, by rw [← HE.out, errV_err HR0.out], by rw [HB.out]; exact reads_0 _ _, by rw [HB.out]; exact own_zero _ _, below_setRow hbw4 _ _ hwr⟩
    exact results_cell_tmp (ty := 29) (p := 4) (q := 5) (by kernel_rfl) _ _ gr 29 _ (0, 0) _ rfl (setRow_heap _ _ _ _ _ _ hr4) Try.underlying29 rfl hsz0
  rw [hr0, errV_nil]
  have hdo : doS s e = (applyS s e).1 := if_pos hr0
  obtain ⟨hl1, hl2⟩ := ap_len s e
  rw [← hdo] at hl1 hl2
  have hcp := copyC_own (doS s e) O4 L4 _ w4 hx4.now (by have := HNO.out; omega) (fun z hz => by have := HLL.out z hz; have := hl2 z; omega)
  obtain ⟨c4, hc4⟩ : ∃ c4, c4 = stC O4 L4 (doS s e).pl (doS s e).gm := ⟨_, rfl⟩
  have hsz4 : (Try.prog.info? 29).map (·.size) = some c4.size := by rw [hc4, stC_size]; exact size37
  rw [← hc4] at hcp ha4
  unfold StAt at ha4
  have HD := Lib.hid hdo
  have HR0 := Lib.hid hr0
  have HI4 := Lib.hid (hx4.now.i64)
  clear hl1 hl2 hc4 hx4 hdo hr0
  go_wp2_with (refine wpList_load_row rfl 29 (.tmp 2) rfl g rfl 29 _ (0, 0) _ ha4 Try.underlying29 rfl hsz4 ?_)
  refine hcp.mono ?_
  rintro en w5 ⟨c5, rfl, O5, L5, hc5, ho5, hb5⟩
  have hR5 : ReadsS w5.heap.size w5 c5 (doS s e) O5 L5 := by rw [hc5]; exact ho5.reads HI4.out.o HI4.out.l HI4.out.p HI4.out.g
  clear hcp ha4 hsz4
  have hr5 := (hb5.block gr (Array.getElem?_eq_some_iff.1 hr4).1).trans hr4
  have hsz5 : (Try.prog.info? 29).map (·.size) = some c5.size := by rw [hR5.size]; exact size37
  have hs05 : st0.size = c5.size := by rw [hR5.size]; exact stC_size _ _ _ _
  have hone5 := hR5.one
  have hgr4 : gr < w4.heap.size := (Array.getElem?_eq_some_iff.1 hr4).1
  have HF := Lib.hid (show ReadsS (w5.setRow gr c5).heap.size (w5.setRow gr c5) c5 (doS s e) O5 L5 ∧ OwnS (w5.setRow gr c5) w.heap.size (doS s e) O5 L5 from by
    have ho6 : OwnS (w5.setRow gr c5) w4.heap.size (doS s e) O5 L5 := ho5.keep fun j hj _ => setRow_other w5 gr j c5 (by omega)
    exact ⟨by rw [hc5]; rw [hc5] at ho6; exact ho6.reads HI4.out.o HI4.out.l HI4.out.p HI4.out.g, ho6.low hbw4.size⟩)
  have hbw5 := keepB hb5 hbw4
  clear hR5 hc5 ho5 hr4
  go_wp2_with (refine wpList_store_row rfl 29 (.tmp 4) (.tmp 14) rfl gr _ rfl rfl 29 st0 hr5 hsz5 hs05 hone5 ?_)
  refine bodyPost_ret (v := .tuple #[.agg c5, .nilIface]) ?_ rfl ⟨c5, O5, L5, by rw [HR0.out, errV_nil], by rw [← HD.out]; exact HF.out.1, by rw [← HD.out]; exact HF.out.2, below_setRow hbw5 _ _ hwr⟩
  exact results_cell_tmp (ty := 29) (p := 4) (q := 5) (by kernel_rfl) _ _ gr 29 _ (0, 0) _ rfl (setRow_heap _ _ _ _ _ _ hr5) Try.underlying29 rfl hsz5
end Go.Proofs.Ythedopnhhanknaa
