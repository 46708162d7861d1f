/- Layer 14: the law's 'is': a journal tells what the document's does. -/
import Derived.Test.YtncmfkmgaghklaaJnG
import Derived.Test.YtncmfkmgaghklaaJnLw
import Derived.Test.YtncmfkmgaghklaaIs
import Derived.Test.YtncmfkmgaghklaaNtRef
namespace Go.Proofs.Ytncmfkmgaghklaa
open Go.RowKit Ex
set_option maxRecDepth 100000
theorem load_wantJ {ops : Array Oper} {rest : List Oper} {op : Oper} {a : Act} {w : World} {Q : Exit → Act → World → Prop} (hw : Region.wanted op (yielded ops a.tmps) = true) (y : Operand) (ho : op.op = .load 29 y)
    (g : Nat) (hx : a.eval y = .pointer (some ⟨g, 0, none⟩)) (A : Option Addr) (n c : Nat) (x : Int) (h : JBox w g A n c x)
    (hK : wpList Try.prog ops Q rest (a.put op.dst (.agg #[.slice A n c, .int .i64 x])) w) : wpList Try.prog ops Q (op :: rest) a w := by
  refine BigFrame.wpList_want hw fun _ hK' => wp_load_row 29 y ho g hx 29 #[.slice A n c, .int .i64 x] (0, 0) _ h Try.underlying29 rfl (jsize A n c x) (hK' _ _ hK)
/-- A journal that reads so, in a later world. -/
structure JnR (T : JRep) (z w : World) (p : Nat) (J : JT) (F : Nat → Prop) : Prop where
  r : T.R w p J F
  b : Below z.heap.size z w
theorem JnR.to {T : JRep} {z w W : World} {p : Nat} {J : JT} {F : Nat → Prop} (h : JnR T z w p J F) (hb : Below w.heap.size w W) : T.R W p J F := T.stay h.r hb.size fun k hk => hb.block k (T.lt h.r hk)
theorem JnR.z {T : JRep} {z w W : World} {p : Nat} {J : JT} {F : Nat → Prop} (h : JnR T z w p J F) (hb : Below w.heap.size w W) : Below z.heap.size z W := h.b.trans (hb.mono h.b.size)
/-- What is known of the two. -/
structure JnJ (J : JT) (P : PT) : Prop where
  ok : JOk J
  e : J = toJ P
  l : J.last ≤ 1000000
theorem JnJ.m {J : JT} {P : PT} (h : JnJ J P) : J.ms.length = P.r.length := by
  have := congrArg List.length (nums_P P)
  rw [← h.e] at this
  simpa [numsJ] using this
set_option linter.unusedSimpArgs false in
set_option maxHeartbeats 0 in
theorem is_any {T : JRep} {z : World} (E : JnSaid T z) {G : Nat → Prop} (p : Nat) (J : JT) (F : Nat → Prop) (A : Option Addr) (n cc : Nat) (qs : List QT) (P : PT) (c : Int) (w : World)
    (hR : JnR T z w p J F) (hJ : JnJ J P) (hM : MG G w A n cc qs P) (hn : n ≤ 900) (hev : (flat (allPs P)).length ≤ 60000) (hc : N64 c) :
    Calls Try.prog 26 #[ptrV p, .agg #[.slice A n cc, .int .i64 P.last], .int .i64 c] w fun en w' => en = .returned (.bool true) ∧ Below w.heap.size w w' := by
  have HR := Lib.hid hR
  have HJ := Lib.hid hJ
  have HM := Lib.hid hM
  have HCn := Lib.hid hc
  have HN := Lib.hid (show n ≤ 900 ∧ (flat (allPs P)).length ≤ 60000 ∧ n = P.r.length + 1 from ⟨hn, hev, hM.n.trans hM.p.len⟩)
  obtain ⟨x, hx⟩ : ∃ x, x = P.last := ⟨_, rfl⟩
  have HX := Lib.hid hx
  obtain ⟨x1, hx1⟩ : ∃ y, y = x + 1 := ⟨_, rfl⟩
  have hxl : x = J.last := by rw [hx, hJ.e]; rfl
  have HX1 := Lib.hid (show J.last + 1 = x1 by rw [hx1, hxl])
  have ex : IntKind.i64.wrap (x + 1) = x1 := by
    have h1 := hJ.l
    have h2 := hJ.ok.l
    rw [hx1]; exact i64_in (by omega) (by omega)
  obtain ⟨L, hL⟩ : ∃ L, L = J.ev.length := ⟨_, rfl⟩
  have HLn := Lib.hid hL
  have hfi := findRef_any A n cc P c
  rw [← hx] at hfi ⊢
  have HFi := Lib.hid hfi
  unfold ptrV
  clear hR hJ hM hn hev hc hx hx1 hxl hL hfi
  go_enter Try.func26, Try.ntmps26
  go_upto_region 1 with fail
  have hb0 : Below w.heap.size w (w.alloc (.cells #[.slice A n cc, .int .i64 x] 29)) := (Below.refl _ _).alloc (Nat.le_refl _) _
  have hm0 : JBox (w.alloc (.cells #[.slice A n cc, .int .i64 x] 29)) w.heap.size A n cc x := heap_alloc_new _ _
  obtain ⟨gm, hgm⟩ : ∃ g, g = w.heap.size := ⟨_, rfl⟩
  obtain ⟨w1, hw1⟩ : ∃ W, W = w.alloc (.cells #[.slice A n cc, .int .i64 x] 29) := ⟨_, rfl⟩
  rw [← hw1] at hb0 hm0 ⊢
  rw [← hgm] at hm0 ⊢
  clear hw1 hgm
  have hszj := jsize A n cc x
  have hfi := HFi.out w1 (HM.out.ptR.grow hb0) (by have := HN.out; omega)
  have HB1 := Lib.hid hb0
  clear hb0
  obtain ⟨at_, hat⟩ : ∃ a, a = fidx P.r c 1 := ⟨_, rfl⟩
  rw [← hat] at hfi
  have HAt := Lib.hid hat
  clear hat
  go_wp2_with (refine wpList_load_row rfl 29 (.tmp 4) rfl gm rfl 29 _ (0, 0) _ hm0 Try.underlying29 rfl hszj ?_)
  refine hfi.mono ?_
  rintro en w2 ⟨rfl, hb2⟩
  have HI2 := Lib.hid (And.intro (keepB hb2 HB1.out) (hm0.keep hb2))
  have hsp := E.span p J F c w2 (HR.out.to HI2.out.1) HJ.out.ok HCn.out (HR.out.z HI2.out.1)
  unfold ptrV at hsp
  obtain ⟨e, he⟩ : ∃ e, e = deadJ J c := ⟨_, rfl⟩
  rw [← he] at hsp
  have HE := Lib.hid he
  clear he
  clear hfi hb2 hm0 HB1 HFi hszj
  go_wp2_with fail
  refine hsp.mono ?_
  rintro en w3 ⟨A3, n3, c3, rfl, hc3, hV3, hb3⟩
  have HI := Lib.hid (And.intro (keepB hb3 HI2.out.1) (HI2.out.2.keep hb3))
  clear hsp hb3 HI2
  have hli : liveJ J c = (idxP P.r c).isSome := by rw [HJ.out.e]; exact live_P P c
  cases hidx : idxP P.r c with
  | none =>
    obtain rfl : at_ = -1 := by rw [HAt.out]; unfold fidx; rw [hidx]
    have hlf : liveJ J c = false := by rw [hli, hidx]; rfl
    obtain rfl : e = 16 := by rw [HE.out]; unfold deadJ; rw [hlf]; rfl
    have hn3 : n3 = 0 := by
      have := hV3.n
      rw [show spanJ J c = [] from by rw [HJ.out.e]; unfold spanJ; rw [findJ_P, hidx]; rfl] at this
      exact this
    subst hn3
    have HLf := Lib.hid hlf
    clear HAt HE hli hlf hV3 hidx hc3
    go_wp2_with fail
    refine (is_by 16 16 w3).mono ?_
    rintro en w4 ⟨rfl, rfl⟩
    go_upto_region 5 with fail
    rename_i K0 hK0
    have k0 : ∀ W, JBox W gm A n cc x → W.cell? ⟨gm, 0, none⟩ = some (.slice A n cc) := fun W h => cell_of_row W gm 0 _ _ _ h
    have k1 : ∀ W, JBox W gm A n cc x → W.cell? ⟨gm, 1, none⟩ = some (.int .i64 x) := fun W h => cell_of_row W gm 1 _ _ _ h
    refine wp_region_held_drew (S := fun W => JBox W gm A n cc x) (by kernel_rfl) (show JBox (World.drew w3) gm A n cc x from HI.out.2) (fun hHeld => ?_)
    have hI0 : Below w.heap.size w (World.drew w3) ∧ JBox (World.drew w3) gm A n cc x := ⟨HI.out.1.drew, HI.out.2⟩
    obtain ⟨w0, hw0⟩ : ∃ W, W = World.drew w3 := ⟨_, rfl⟩
    rw [← hw0] at hHeld hI0 ⊢
    clear hw0 HI
    refine wpAnyH_take (i := 0) (v := ?_) rfl (by kernel_rfl) (by kernel_rfl) (by kernel_rfl) (fun _ _ _ h => h) (Or.inl ⟨by rfl, ?_⟩) hHeld ?_
    rotate_left
    · (intro w hSw; go_simp; (try with_reducible rfl))
    simp only [Act.put, List.getElem_toArray, List.getElem_cons_zero, List.getElem_cons_succ, List.setIfInBounds_toArray, List.set_cons_zero, List.set_cons_succ]
    refine wpAnyH_take (i := 1) (v := ?_) rfl (by kernel_rfl) (by kernel_rfl) (by kernel_rfl) (fun _ _ _ h => h) (Or.inl ⟨by rfl, ?_⟩) hHeld ?_
    rotate_left
    · (intro w hSw; go_simp; (try with_reducible rfl))
    simp only [Act.put, List.getElem_toArray, List.getElem_cons_zero, List.getElem_cons_succ, List.setIfInBounds_toArray, List.set_cons_zero, List.set_cons_succ]
    refine wpAnyH_take (i := 3) (v := ?_) rfl (by kernel_rfl) (by kernel_rfl) (by kernel_rfl) (fun _ _ _ h => h) (Or.inl ⟨by rfl, ?_⟩) hHeld ?_
    rotate_left
    · (intro w hSw; go_simp; (try with_reducible rfl))
    simp only [Act.put, List.getElem_toArray, List.getElem_cons_zero, List.getElem_cons_succ, List.setIfInBounds_toArray, List.set_cons_zero, List.set_cons_succ]
    refine wpAnyH_take (i := 4) (v := ?_) rfl (by kernel_rfl) (by kernel_rfl) (by kernel_rfl) (fun _ _ _ h => h) (Or.inl ⟨by rfl, ?_⟩) hHeld ?_
    rotate_left
    · (intro w hSw; go_simp; (try with_reducible rfl))
    simp only [Act.put, List.getElem_toArray, List.getElem_cons_zero, List.getElem_cons_succ, List.setIfInBounds_toArray, List.set_cons_zero, List.set_cons_succ]
    refine wpAnyH_ready (rs := [2]) (by kernel_rfl) (by simp) ?_
    refine AllReadyH.cons rfl (fun K hK => ?_) AllReadyH.nil
    try simp only [List.getElem_toArray, List.getElem_cons_zero, List.getElem_cons_succ]
    have hli := E.live p J F c w0 (HR.out.to hI0.1) HJ.out.ok HCn.out (HR.out.z hI0.1)
    rw [HLf.out] at hli
    go_simp
    refine hli.mono ?_
    clear hli
    rintro en w6 ⟨rfl, hb6⟩
    have hI6 := And.intro (keepB hb6 hI0.1) (hI0.2.keep hb6)
    go_wp2_with fail
    refine hK.out _ _ hI6.2 (fun _ => ?_)
    clear hK K
    try simp only [Act.put, List.setIfInBounds_toArray, List.set_cons_zero, List.set_cons_succ]
    clear hHeld
    have hHeld := hI6.2
    refine wpAnyH_take (i := 5) (v := ?_) rfl (by kernel_rfl) (by kernel_rfl) (by kernel_rfl) (fun _ _ _ h => h) (Or.inl ⟨by rfl, ?_⟩) hHeld ?_
    rotate_left
    · (intro w hSw; go_simp; (try with_reducible rfl))
    simp only [Act.put, List.getElem_toArray, List.getElem_cons_zero, List.getElem_cons_succ, List.setIfInBounds_toArray, List.set_cons_zero, List.set_cons_succ]
    refine wpAnyH_take (i := 6) (v := ?_) rfl (by kernel_rfl) (by kernel_rfl) (by kernel_rfl) (fun _ _ _ h => h) (Or.inl ⟨by rfl, ?_⟩) hHeld ?_
    rotate_left
    · (intro w hSw; go_simp; (try with_reducible rfl))
    simp only [Act.put, List.getElem_toArray, List.getElem_cons_zero, List.getElem_cons_succ, List.setIfInBounds_toArray, List.set_cons_zero, List.set_cons_succ]
    refine wpAnyH_take (i := 7) (v := ?_) rfl (by kernel_rfl) (by kernel_rfl) (by kernel_rfl) (fun _ _ _ h => h) (Or.inl ⟨by rfl, ?_⟩) hHeld ?_
    rotate_left
    · (intro w hSw; go_simp; (try with_reducible rfl))
    simp only [Act.put, List.getElem_toArray, List.getElem_cons_zero, List.getElem_cons_succ, List.setIfInBounds_toArray, List.set_cons_zero, List.set_cons_succ]
    refine wpAnyH_take (i := 9) (v := ?_) rfl (by kernel_rfl) (by kernel_rfl) (by kernel_rfl) (fun _ _ _ h => h) (Or.inl ⟨by rfl, ?_⟩) hHeld ?_
    rotate_left
    · (intro w hSw; go_simp; (try with_reducible rfl))
    simp only [Act.put, List.getElem_toArray, List.getElem_cons_zero, List.getElem_cons_succ, List.setIfInBounds_toArray, List.set_cons_zero, List.set_cons_succ]
    refine wpAnyH_ready (rs := [8]) (by kernel_rfl) (by simp) ?_
    refine AllReadyH.cons rfl (fun K hK => ?_) AllReadyH.nil
    try simp only [List.getElem_toArray, List.getElem_cons_zero, List.getElem_cons_succ]
    have hle := E.len p J F w6 (HR.out.to hI6.1) HJ.out.ok (HR.out.z hI6.1)
    rw [← HLn.out] at hle
    go_simp
    refine hle.mono ?_
    clear hle
    rintro en w7 ⟨rfl, hb7⟩
    have hI7 := And.intro (keepB hb7 hI6.1) (hI6.2.keep hb7)
    go_wp2_with fail
    refine hK.out _ _ hI7.2 (fun _ => ?_)
    clear hK K
    try simp only [Act.put, List.setIfInBounds_toArray, List.set_cons_zero, List.set_cons_succ]
    clear hHeld
    have hHeld := hI7.2
    refine wpAnyH_ready (rs := [10]) (by kernel_rfl) (by simp) ?_
    refine AllReadyH.cons rfl (fun K hK => ?_) AllReadyH.nil
    try simp only [List.getElem_toArray, List.getElem_cons_zero, List.getElem_cons_succ]
    have hal := allRef_any A n cc P 0 w7 (HM.out.ptR.grow hI7.1) (by have := HN.out; omega) (by omega) (by have := HN.out; omega)
    rw [← HX.out, List.drop_zero] at hal
    go_simp
    refine hal.mono ?_
    clear hal
    rintro en w8 ⟨A8, m8, c8, rfl, hV8⟩
    obtain rfl : L = m8 := by rw [HLn.out, HJ.out.e, hV8.own.len]; rfl
    have hI8 := And.intro (keepB hV8.b hI7.1) (hI7.2.keep hV8.b)
    go_wp2_with fail
    refine hK.out _ _ hI8.2 (fun _ => ?_)
    clear hK K
    try simp only [Act.put, List.setIfInBounds_toArray, List.set_cons_zero, List.set_cons_succ]
    clear hHeld hV8
    have hHeld := hI8.2
    refine wpAnyH_take (i := 11) (v := ?_) rfl (by kernel_rfl) (by kernel_rfl) (by kernel_rfl) (fun _ _ _ h => h) (Or.inl ⟨by rfl, ?_⟩) hHeld ?_
    rotate_left
    · (intro w hSw; go_simp; (try with_reducible rfl))
    simp only [Act.put, List.getElem_toArray, List.getElem_cons_zero, List.getElem_cons_succ, List.setIfInBounds_toArray, List.set_cons_zero, List.set_cons_succ]
    refine wpAnyH_take (i := 12) (v := ?_) rfl (by kernel_rfl) (by kernel_rfl) (by kernel_rfl) (fun _ _ _ h => h) (Or.inl ⟨by rfl, ?_⟩) hHeld ?_
    rotate_left
    · (intro w hSw; go_simp; (try with_reducible rfl))
    simp only [Act.put, List.getElem_toArray, List.getElem_cons_zero, List.getElem_cons_succ, List.setIfInBounds_toArray, List.set_cons_zero, List.set_cons_succ]
    refine wpAnyH_take (i := 13) (v := ?_) rfl (by kernel_rfl) (by kernel_rfl) (by kernel_rfl) (fun _ _ _ h => h) (Or.inl ⟨by rfl, ?_⟩) hHeld ?_
    rotate_left
    · (intro w hSw; go_simp; (try with_reducible rfl))
    simp only [Act.put, List.getElem_toArray, List.getElem_cons_zero, List.getElem_cons_succ, List.setIfInBounds_toArray, List.set_cons_zero, List.set_cons_succ]
    refine wpAnyH_take (i := 14) (v := ?_) rfl (by kernel_rfl) (by kernel_rfl) (by kernel_rfl) (fun _ _ _ h => h) (Or.inl ⟨by rfl, ?_⟩) hHeld ?_
    rotate_left
    · (intro w hSw; go_simp; (try with_reducible rfl))
    simp only [Act.put, List.getElem_toArray, List.getElem_cons_zero, List.getElem_cons_succ, List.setIfInBounds_toArray, List.set_cons_zero, List.set_cons_succ]
    refine wpAnyH_take (i := 15) (v := ?_) rfl (by kernel_rfl) (by kernel_rfl) (by kernel_rfl) (fun _ _ _ h => h) (Or.inl ⟨by rfl, ?_⟩) hHeld ?_
    rotate_left
    · (intro w hSw; go_simp; (try with_reducible rfl))
    simp only [Act.put, List.getElem_toArray, List.getElem_cons_zero, List.getElem_cons_succ, List.setIfInBounds_toArray, List.set_cons_zero, List.set_cons_succ]
    refine wpAnyH_take (i := 17) (v := ?_) rfl (by kernel_rfl) (by kernel_rfl) (by kernel_rfl) (fun _ _ _ h => h) (Or.inl ⟨by rfl, ?_⟩) hHeld ?_
    rotate_left
    · (intro w hSw; go_simp; (try with_reducible rfl))
    simp only [Act.put, List.getElem_toArray, List.getElem_cons_zero, List.getElem_cons_succ, List.setIfInBounds_toArray, List.set_cons_zero, List.set_cons_succ]
    refine wpAnyH_ready (rs := [16]) (by kernel_rfl) (by simp) ?_
    refine AllReadyH.cons rfl (fun K hK => ?_) AllReadyH.nil
    try simp only [List.getElem_toArray, List.getElem_cons_zero, List.getElem_cons_succ]
    have hma := E.marks p J F w8 (HR.out.to hI8.1) HJ.out.ok (by have := HJ.out.m; have := HN.out; omega) (HR.out.z hI8.1)
    go_simp
    refine hma.mono ?_
    clear hma
    rintro en w9 ⟨A9, m9, c9, rfl, hc9, hN9, hb9⟩
    have hI9 := And.intro (keepB hb9 hI8.1) (hI8.2.keep hb9)
    go_wp2_with fail
    refine hK.out _ _ hI9.2 (fun _ => ?_)
    clear hK K
    try simp only [Act.put, List.setIfInBounds_toArray, List.set_cons_zero, List.set_cons_succ]
    clear hHeld
    have hHeld := hI9.2
    refine wpAnyH_ready (rs := [18]) (by kernel_rfl) (by simp) ?_
    refine AllReadyH.cons rfl (fun K hK => ?_) AllReadyH.nil
    try simp only [List.getElem_toArray, List.getElem_cons_zero, List.getElem_cons_succ]
    have hmr := marksRef_any A n cc P w9 (HM.out.ptR.grow hI9.1) (by have := HN.out; omega)
    rw [← HX.out] at hmr
    go_simp
    refine hmr.mono ?_
    clear hmr
    rintro en w10 ⟨A10, m10, c10, rfl, hV10⟩
    have hI10 := And.intro (keepB hV10.b hI9.1) (hI9.2.keep hV10.b)
    have hN9b := hN9.below hV10.b
    have hN10 := hV10.own.nums
    go_wp2_with fail
    refine hK.out _ _ hI10.2 (fun _ => ?_)
    clear hK K
    try simp only [Act.put, List.setIfInBounds_toArray, List.set_cons_zero, List.set_cons_succ]
    clear hHeld
    have hHeld := hI10.2
    refine wpAnyH_ready (rs := [19]) (by kernel_rfl) (by simp) ?_
    refine AllReadyH.cons rfl (fun K hK => ?_) AllReadyH.nil
    try simp only [List.getElem_toArray, List.getElem_cons_zero, List.getElem_cons_succ]
    have hin := ints_any A9 A10 m9 c9 m10 c10 (numsJ J) (P.r.map Prod.fst) w10 _ _ hN9b hN10
      (by have h1 := hN9.1; rw [show numsJ J = P.r.map Prod.fst from by rw [HJ.out.e]; exact nums_P P, List.length_map] at h1; have := HN.out; omega)
      (by have h1 := hN10.1; rw [List.length_map] at h1; have := HN.out; omega)
    rw [show decide (numsJ J = P.r.map Prod.fst) = true from decide_eq_true (by rw [HJ.out.e]; exact nums_P P)] at hin
    go_simp
    refine hin.mono ?_
    clear hin
    rintro en w11 ⟨rfl, m11, rfl⟩
    have hI11 : Below w.heap.size w (w10.drewN m11) ∧ JBox (w10.drewN m11) gm A n cc x := ⟨below_drewN hI10.1 m11, hI10.2⟩
    go_wp2_with fail
    refine hK.out _ _ hI11.2 (fun _ => ?_)
    clear hK K
    try simp only [Act.put, List.setIfInBounds_toArray, List.set_cons_zero, List.set_cons_succ]
    clear hHeld
    have hHeld := hI11.2
    refine wpAnyH_take (i := 20) (v := ?_) rfl (by kernel_rfl) (by kernel_rfl) (by kernel_rfl) (fun _ _ _ h => h) (Or.inl ⟨by rfl, ?_⟩) hHeld ?_
    rotate_left
    · (intro w hSw; go_simp; (try with_reducible rfl))
    simp only [Act.put, List.getElem_toArray, List.getElem_cons_zero, List.getElem_cons_succ, List.setIfInBounds_toArray, List.set_cons_zero, List.set_cons_succ]
    refine wpAnyH_take (i := 21) (v := ?_) rfl (by kernel_rfl) (by kernel_rfl) (by kernel_rfl) (fun _ _ _ h => h) (Or.inl ⟨by rfl, ?_⟩) hHeld ?_
    rotate_left
    · (intro w hSw; go_simp; (try with_reducible rfl))
    simp only [Act.put, List.getElem_toArray, List.getElem_cons_zero, List.getElem_cons_succ, List.setIfInBounds_toArray, List.set_cons_zero, List.set_cons_succ]
    refine wpAnyH_take (i := 22) (v := ?_) rfl (by kernel_rfl) (by kernel_rfl) (by kernel_rfl) (fun _ _ _ h => h) (Or.inl ⟨by rfl, ?_⟩) hHeld ?_
    rotate_left
    · (intro w hSw; go_simp; (try with_reducible rfl))
    simp only [Act.put, List.getElem_toArray, List.getElem_cons_zero, List.getElem_cons_succ, List.setIfInBounds_toArray, List.set_cons_zero, List.set_cons_succ]
    refine wpAnyH_take (i := 24) (v := ?_) rfl (by kernel_rfl) (by kernel_rfl) (by kernel_rfl) (fun _ _ _ h => h) (Or.inl ⟨by rfl, ?_⟩) hHeld ?_
    rotate_left
    · (intro w hSw; go_simp; (try with_reducible rfl))
    simp only [Act.put, List.getElem_toArray, List.getElem_cons_zero, List.getElem_cons_succ, List.setIfInBounds_toArray, List.set_cons_zero, List.set_cons_succ]
    refine wpAnyH_take (i := 25) (v := ?_) rfl (by kernel_rfl) (by kernel_rfl) (by kernel_rfl) (fun _ _ _ h => h) (Or.inl ⟨by rfl, ?_⟩) hHeld ?_
    rotate_left
    · (intro w hSw; go_simp; (try with_reducible rfl))
    simp only [Act.put, List.getElem_toArray, List.getElem_cons_zero, List.getElem_cons_succ, List.setIfInBounds_toArray, List.set_cons_zero, List.set_cons_succ]
    refine wpAnyH_take (i := 26) (v := ?_) rfl (by kernel_rfl) (by kernel_rfl) (by kernel_rfl) (fun _ _ _ h => h) (Or.inl ⟨by rfl, ?_⟩) hHeld ?_
    rotate_left
    · (intro w hSw; go_simp; (try with_reducible rfl))
    simp only [Act.put, List.getElem_toArray, List.getElem_cons_zero, List.getElem_cons_succ, List.setIfInBounds_toArray, List.set_cons_zero, List.set_cons_succ]
    refine wpAnyH_ready (rs := [23]) (by kernel_rfl) (by simp) ?_
    refine AllReadyH.cons rfl (fun K hK => ?_) AllReadyH.nil
    try simp only [List.getElem_toArray, List.getElem_cons_zero, List.getElem_cons_succ]
    have hne := E.next p J F (w10.drewN m11) (HR.out.to hI11.1) HJ.out.ok HJ.out.l (HR.out.z hI11.1)
    rw [show J.last + 1 = x1 from HX1.out] at hne
    go_simp
    refine hne.mono ?_
    clear hne
    rintro en w12 ⟨rfl, hb12⟩
    have hI12 := And.intro (keepB hb12 hI11.1) (hI11.2.keep hb12)
    go_wp2_with fail
    refine hK.out _ _ hI12.2 (fun _ => ?_)
    clear hK K
    try simp only [Act.put, List.setIfInBounds_toArray, List.set_cons_zero, List.set_cons_succ]
    clear hHeld
    have hHeld := hI12.2
    refine wpAnyH_take (i := 27) (v := ?_) rfl (by kernel_rfl) (by kernel_rfl) (by kernel_rfl) (fun _ _ _ h => h) (Or.inl ⟨by rfl, ?_⟩) hHeld ?_
    rotate_left
    · (intro w hSw; go_simp; (try with_reducible rfl))
    simp only [Act.put, List.getElem_toArray, List.getElem_cons_zero, List.getElem_cons_succ, List.setIfInBounds_toArray, List.set_cons_zero, List.set_cons_succ]
    refine wpAnyH_take (i := 28) (v := ?_) rfl (by kernel_rfl) (by kernel_rfl) (by kernel_rfl) (fun _ _ _ h => h) (Or.inl ⟨by rfl, ?_⟩) hHeld ?_
    rotate_left
    · (intro w hSw; go_simp; (try with_reducible rfl))
    simp only [Act.put, List.getElem_toArray, List.getElem_cons_zero, List.getElem_cons_succ, List.setIfInBounds_toArray, List.set_cons_zero, List.set_cons_succ]
    refine wpAnyH_take (i := 29) (v := ?_) rfl (by kernel_rfl) (by kernel_rfl) (by kernel_rfl) (fun _ _ _ h => h) (Or.inl ⟨by rfl, ?_⟩) hHeld ?_
    rotate_left
    · (intro w hSw; go_simp; (try with_reducible rfl))
    simp only [Act.put, List.getElem_toArray, List.getElem_cons_zero, List.getElem_cons_succ, List.setIfInBounds_toArray, List.set_cons_zero, List.set_cons_succ]
    refine wpAnyH_done (by kernel_rfl) ?_ _
    refine hK0 _ _ ?_
    have hbF := hI12.1
    go_wp2_with fail
    go_ret
    exact ⟨rfl, hbF⟩
  | some i =>
    obtain ⟨at1, hat1⟩ : ∃ a : Nat, a = i + 1 := ⟨_, rfl⟩
    obtain rfl : at_ = (at1 : Int) := by rw [HAt.out]; unfold fidx; rw [hidx]; show (i : Int) + ((1 : Nat) : Int) = _; omega
    have hlf : liveJ J c = true := by rw [hli, hidx]; rfl
    obtain rfl : e = 0 := by rw [HE.out]; unfold deadJ; rw [hlf]; rfl
    obtain ⟨lx, hlx⟩ := idx_at hidx
    have hil := (List.getElem?_eq_some_iff.1 hlx).1
    have hfl : spanJ J c = flat (P.r.drop i) := by rw [HJ.out.e]; exact span_P hidx
    rw [hfl] at hV3
    have HLf := Lib.hid hlf
    have hal := allRef_any A n cc P at1 w3 (HM.out.ptR.grow HI.out.1) (by have := HN.out; omega) (by have := HN.out; omega) (by have := HN.out; omega)
    rw [← HX.out, show (allPs P).drop at1 = P.r.drop i by rw [hat1]; rfl] at hal
    have d0 : decide ((at1 : Int) < 0) = false := by simp
    have d1 : decide ((0 : Int) ≤ (at1 : Int)) = true := by simp
    have HV3 := Lib.hid hV3
    have hm3 := HI.out.2
    rw [errV_nil]
    clear HAt HE hli hlf hV3 hidx hc3 hat1 hlx hil hfl
    go_wp2_with (refine load_wantJ (by rfl) (.tmp 4) rfl gm rfl A n cc x hm3 ?_)
    refine hal.mono ?_
    clear hal
    rintro en w4 ⟨A4, m4, c4, rfl, hV4⟩
    have HI4 := Lib.hid (And.intro (keepB hV4.b HI.out.1) (HI.out.2.keep hV4.b))
    obtain rfl : n3 = m4 := HV3.out.n.trans hV4.own.len.symm
    have hev := events_any A3 A4 n3 c3 c4 _ w4 (HV3.out.grow hV4.b) (hV4.own.evs HV3.out.i) (by have := hV4.own.len; have h1 := flat_drop_len (allPs P) (i + 1); have := HN.out; rw [show (allPs P).drop (i + 1) = P.r.drop i from rfl] at h1; omega)
    clear hV4 hm3 HI
    go_wp2_with fail
    refine hev.mono ?_
    clear hev
    rintro en w5 ⟨rfl, hb5⟩
    have HI := Lib.hid (And.intro (keepB hb5 HI4.out.1) (HI4.out.2.keep hb5))
    clear hb5 HI4
    go_upto_region 5 with fail
    rename_i K0 hK0
    have k0 : ∀ W, JBox W gm A n cc x → W.cell? ⟨gm, 0, none⟩ = some (.slice A n cc) := fun W h => cell_of_row W gm 0 _ _ _ h
    have k1 : ∀ W, JBox W gm A n cc x → W.cell? ⟨gm, 1, none⟩ = some (.int .i64 x) := fun W h => cell_of_row W gm 1 _ _ _ h
    refine wp_region_held_drew (S := fun W => JBox W gm A n cc x) (by kernel_rfl) (show JBox (World.drew w5) gm A n cc x from HI.out.2) (fun hHeld => ?_)
    have hI0 : Below w.heap.size w (World.drew w5) ∧ JBox (World.drew w5) gm A n cc x := ⟨HI.out.1.drew, HI.out.2⟩
    obtain ⟨w0, hw0⟩ : ∃ W, W = World.drew w5 := ⟨_, rfl⟩
    rw [← hw0] at hHeld hI0 ⊢
    clear hw0 HI
    refine wpAnyH_take (i := 0) (v := ?_) rfl (by kernel_rfl) (by kernel_rfl) (by kernel_rfl) (fun _ _ _ h => h) (Or.inl ⟨by rfl, ?_⟩) hHeld ?_
    rotate_left
    · (intro w hSw; go_simp; (try with_reducible rfl))
    simp only [Act.put, List.getElem_toArray, List.getElem_cons_zero, List.getElem_cons_succ, List.setIfInBounds_toArray, List.set_cons_zero, List.set_cons_succ]
    refine wpAnyH_take (i := 1) (v := ?_) rfl (by kernel_rfl) (by kernel_rfl) (by kernel_rfl) (fun _ _ _ h => h) (Or.inl ⟨by rfl, ?_⟩) hHeld ?_
    rotate_left
    · (intro w hSw; go_simp; (try with_reducible rfl))
    simp only [Act.put, List.getElem_toArray, List.getElem_cons_zero, List.getElem_cons_succ, List.setIfInBounds_toArray, List.set_cons_zero, List.set_cons_succ]
    refine wpAnyH_take (i := 3) (v := ?_) rfl (by kernel_rfl) (by kernel_rfl) (by kernel_rfl) (fun _ _ _ h => h) (Or.inl ⟨by rfl, ?_⟩) hHeld ?_
    rotate_left
    · (intro w hSw; go_simp; (try with_reducible rfl))
    simp only [Act.put, List.getElem_toArray, List.getElem_cons_zero, List.getElem_cons_succ, List.setIfInBounds_toArray, List.set_cons_zero, List.set_cons_succ]
    refine wpAnyH_take (i := 4) (v := ?_) rfl (by kernel_rfl) (by kernel_rfl) (by kernel_rfl) (fun _ _ _ h => h) (Or.inl ⟨by rfl, ?_⟩) hHeld ?_
    rotate_left
    · (intro w hSw; go_simp; (try with_reducible rfl))
    simp only [Act.put, List.getElem_toArray, List.getElem_cons_zero, List.getElem_cons_succ, List.setIfInBounds_toArray, List.set_cons_zero, List.set_cons_succ]
    refine wpAnyH_ready (rs := [2]) (by kernel_rfl) (by simp) ?_
    refine AllReadyH.cons rfl (fun K hK => ?_) AllReadyH.nil
    try simp only [List.getElem_toArray, List.getElem_cons_zero, List.getElem_cons_succ]
    have hli := E.live p J F c w0 (HR.out.to hI0.1) HJ.out.ok HCn.out (HR.out.z hI0.1)
    rw [HLf.out] at hli
    go_simp
    refine hli.mono ?_
    clear hli
    rintro en w6 ⟨rfl, hb6⟩
    have hI6 := And.intro (keepB hb6 hI0.1) (hI0.2.keep hb6)
    go_wp2_with fail
    refine hK.out _ _ hI6.2 (fun _ => ?_)
    clear hK K
    try simp only [Act.put, List.setIfInBounds_toArray, List.set_cons_zero, List.set_cons_succ]
    clear hHeld
    have hHeld := hI6.2
    refine wpAnyH_take (i := 5) (v := ?_) rfl (by kernel_rfl) (by kernel_rfl) (by kernel_rfl) (fun _ _ _ h => h) (Or.inl ⟨by rfl, ?_⟩) hHeld ?_
    rotate_left
    · (intro w hSw; go_simp; (try with_reducible rfl))
    simp only [Act.put, List.getElem_toArray, List.getElem_cons_zero, List.getElem_cons_succ, List.setIfInBounds_toArray, List.set_cons_zero, List.set_cons_succ]
    refine wpAnyH_take (i := 6) (v := ?_) rfl (by kernel_rfl) (by kernel_rfl) (by kernel_rfl) (fun _ _ _ h => h) (Or.inl ⟨by rfl, ?_⟩) hHeld ?_
    rotate_left
    · (intro w hSw; go_simp; (try with_reducible rfl))
    simp only [Act.put, List.getElem_toArray, List.getElem_cons_zero, List.getElem_cons_succ, List.setIfInBounds_toArray, List.set_cons_zero, List.set_cons_succ]
    refine wpAnyH_take (i := 7) (v := ?_) rfl (by kernel_rfl) (by kernel_rfl) (by kernel_rfl) (fun _ _ _ h => h) (Or.inl ⟨by rfl, ?_⟩) hHeld ?_
    rotate_left
    · (intro w hSw; go_simp; (try with_reducible rfl))
    simp only [Act.put, List.getElem_toArray, List.getElem_cons_zero, List.getElem_cons_succ, List.setIfInBounds_toArray, List.set_cons_zero, List.set_cons_succ]
    refine wpAnyH_take (i := 9) (v := ?_) rfl (by kernel_rfl) (by kernel_rfl) (by kernel_rfl) (fun _ _ _ h => h) (Or.inl ⟨by rfl, ?_⟩) hHeld ?_
    rotate_left
    · (intro w hSw; go_simp; (try with_reducible rfl))
    simp only [Act.put, List.getElem_toArray, List.getElem_cons_zero, List.getElem_cons_succ, List.setIfInBounds_toArray, List.set_cons_zero, List.set_cons_succ]
    refine wpAnyH_ready (rs := [8]) (by kernel_rfl) (by simp) ?_
    refine AllReadyH.cons rfl (fun K hK => ?_) AllReadyH.nil
    try simp only [List.getElem_toArray, List.getElem_cons_zero, List.getElem_cons_succ]
    have hle := E.len p J F w6 (HR.out.to hI6.1) HJ.out.ok (HR.out.z hI6.1)
    rw [← HLn.out] at hle
    go_simp
    refine hle.mono ?_
    clear hle
    rintro en w7 ⟨rfl, hb7⟩
    have hI7 := And.intro (keepB hb7 hI6.1) (hI6.2.keep hb7)
    go_wp2_with fail
    refine hK.out _ _ hI7.2 (fun _ => ?_)
    clear hK K
    try simp only [Act.put, List.setIfInBounds_toArray, List.set_cons_zero, List.set_cons_succ]
    clear hHeld
    have hHeld := hI7.2
    refine wpAnyH_ready (rs := [10]) (by kernel_rfl) (by simp) ?_
    refine AllReadyH.cons rfl (fun K hK => ?_) AllReadyH.nil
    try simp only [List.getElem_toArray, List.getElem_cons_zero, List.getElem_cons_succ]
    have hal := allRef_any A n cc P 0 w7 (HM.out.ptR.grow hI7.1) (by have := HN.out; omega) (by omega) (by have := HN.out; omega)
    rw [← HX.out, List.drop_zero] at hal
    go_simp
    refine hal.mono ?_
    clear hal
    rintro en w8 ⟨A8, m8, c8, rfl, hV8⟩
    obtain rfl : L = m8 := by rw [HLn.out, HJ.out.e, hV8.own.len]; rfl
    have hI8 := And.intro (keepB hV8.b hI7.1) (hI7.2.keep hV8.b)
    go_wp2_with fail
    refine hK.out _ _ hI8.2 (fun _ => ?_)
    clear hK K
    try simp only [Act.put, List.setIfInBounds_toArray, List.set_cons_zero, List.set_cons_succ]
    clear hHeld hV8
    have hHeld := hI8.2
    refine wpAnyH_take (i := 11) (v := ?_) rfl (by kernel_rfl) (by kernel_rfl) (by kernel_rfl) (fun _ _ _ h => h) (Or.inl ⟨by rfl, ?_⟩) hHeld ?_
    rotate_left
    · (intro w hSw; go_simp; (try with_reducible rfl))
    simp only [Act.put, List.getElem_toArray, List.getElem_cons_zero, List.getElem_cons_succ, List.setIfInBounds_toArray, List.set_cons_zero, List.set_cons_succ]
    refine wpAnyH_take (i := 12) (v := ?_) rfl (by kernel_rfl) (by kernel_rfl) (by kernel_rfl) (fun _ _ _ h => h) (Or.inl ⟨by rfl, ?_⟩) hHeld ?_
    rotate_left
    · (intro w hSw; go_simp; (try with_reducible rfl))
    simp only [Act.put, List.getElem_toArray, List.getElem_cons_zero, List.getElem_cons_succ, List.setIfInBounds_toArray, List.set_cons_zero, List.set_cons_succ]
    refine wpAnyH_take (i := 13) (v := ?_) rfl (by kernel_rfl) (by kernel_rfl) (by kernel_rfl) (fun _ _ _ h => h) (Or.inl ⟨by rfl, ?_⟩) hHeld ?_
    rotate_left
    · (intro w hSw; go_simp; (try with_reducible rfl))
    simp only [Act.put, List.getElem_toArray, List.getElem_cons_zero, List.getElem_cons_succ, List.setIfInBounds_toArray, List.set_cons_zero, List.set_cons_succ]
    refine wpAnyH_take (i := 14) (v := ?_) rfl (by kernel_rfl) (by kernel_rfl) (by kernel_rfl) (fun _ _ _ h => h) (Or.inl ⟨by rfl, ?_⟩) hHeld ?_
    rotate_left
    · (intro w hSw; go_simp; (try with_reducible rfl))
    simp only [Act.put, List.getElem_toArray, List.getElem_cons_zero, List.getElem_cons_succ, List.setIfInBounds_toArray, List.set_cons_zero, List.set_cons_succ]
    refine wpAnyH_take (i := 15) (v := ?_) rfl (by kernel_rfl) (by kernel_rfl) (by kernel_rfl) (fun _ _ _ h => h) (Or.inl ⟨by rfl, ?_⟩) hHeld ?_
    rotate_left
    · (intro w hSw; go_simp; (try with_reducible rfl))
    simp only [Act.put, List.getElem_toArray, List.getElem_cons_zero, List.getElem_cons_succ, List.setIfInBounds_toArray, List.set_cons_zero, List.set_cons_succ]
    refine wpAnyH_take (i := 17) (v := ?_) rfl (by kernel_rfl) (by kernel_rfl) (by kernel_rfl) (fun _ _ _ h => h) (Or.inl ⟨by rfl, ?_⟩) hHeld ?_
    rotate_left
    · (intro w hSw; go_simp; (try with_reducible rfl))
    simp only [Act.put, List.getElem_toArray, List.getElem_cons_zero, List.getElem_cons_succ, List.setIfInBounds_toArray, List.set_cons_zero, List.set_cons_succ]
    refine wpAnyH_ready (rs := [16]) (by kernel_rfl) (by simp) ?_
    refine AllReadyH.cons rfl (fun K hK => ?_) AllReadyH.nil
    try simp only [List.getElem_toArray, List.getElem_cons_zero, List.getElem_cons_succ]
    have hma := E.marks p J F w8 (HR.out.to hI8.1) HJ.out.ok (by have := HJ.out.m; have := HN.out; omega) (HR.out.z hI8.1)
    go_simp
    refine hma.mono ?_
    clear hma
    rintro en w9 ⟨A9, m9, c9, rfl, hc9, hN9, hb9⟩
    have hI9 := And.intro (keepB hb9 hI8.1) (hI8.2.keep hb9)
    go_wp2_with fail
    refine hK.out _ _ hI9.2 (fun _ => ?_)
    clear hK K
    try simp only [Act.put, List.setIfInBounds_toArray, List.set_cons_zero, List.set_cons_succ]
    clear hHeld
    have hHeld := hI9.2
    refine wpAnyH_ready (rs := [18]) (by kernel_rfl) (by simp) ?_
    refine AllReadyH.cons rfl (fun K hK => ?_) AllReadyH.nil
    try simp only [List.getElem_toArray, List.getElem_cons_zero, List.getElem_cons_succ]
    have hmr := marksRef_any A n cc P w9 (HM.out.ptR.grow hI9.1) (by have := HN.out; omega)
    rw [← HX.out] at hmr
    go_simp
    refine hmr.mono ?_
    clear hmr
    rintro en w10 ⟨A10, m10, c10, rfl, hV10⟩
    have hI10 := And.intro (keepB hV10.b hI9.1) (hI9.2.keep hV10.b)
    have hN9b := hN9.below hV10.b
    have hN10 := hV10.own.nums
    go_wp2_with fail
    refine hK.out _ _ hI10.2 (fun _ => ?_)
    clear hK K
    try simp only [Act.put, List.setIfInBounds_toArray, List.set_cons_zero, List.set_cons_succ]
    clear hHeld
    have hHeld := hI10.2
    refine wpAnyH_ready (rs := [19]) (by kernel_rfl) (by simp) ?_
    refine AllReadyH.cons rfl (fun K hK => ?_) AllReadyH.nil
    try simp only [List.getElem_toArray, List.getElem_cons_zero, List.getElem_cons_succ]
    have hin := ints_any A9 A10 m9 c9 m10 c10 (numsJ J) (P.r.map Prod.fst) w10 _ _ hN9b hN10
      (by have h1 := hN9.1; rw [show numsJ J = P.r.map Prod.fst from by rw [HJ.out.e]; exact nums_P P, List.length_map] at h1; have := HN.out; omega)
      (by have h1 := hN10.1; rw [List.length_map] at h1; have := HN.out; omega)
    rw [show decide (numsJ J = P.r.map Prod.fst) = true from decide_eq_true (by rw [HJ.out.e]; exact nums_P P)] at hin
    go_simp
    refine hin.mono ?_
    clear hin
    rintro en w11 ⟨rfl, m11, rfl⟩
    have hI11 : Below w.heap.size w (w10.drewN m11) ∧ JBox (w10.drewN m11) gm A n cc x := ⟨below_drewN hI10.1 m11, hI10.2⟩
    go_wp2_with fail
    refine hK.out _ _ hI11.2 (fun _ => ?_)
    clear hK K
    try simp only [Act.put, List.setIfInBounds_toArray, List.set_cons_zero, List.set_cons_succ]
    clear hHeld
    have hHeld := hI11.2
    refine wpAnyH_take (i := 20) (v := ?_) rfl (by kernel_rfl) (by kernel_rfl) (by kernel_rfl) (fun _ _ _ h => h) (Or.inl ⟨by rfl, ?_⟩) hHeld ?_
    rotate_left
    · (intro w hSw; go_simp; (try with_reducible rfl))
    simp only [Act.put, List.getElem_toArray, List.getElem_cons_zero, List.getElem_cons_succ, List.setIfInBounds_toArray, List.set_cons_zero, List.set_cons_succ]
    refine wpAnyH_take (i := 21) (v := ?_) rfl (by kernel_rfl) (by kernel_rfl) (by kernel_rfl) (fun _ _ _ h => h) (Or.inl ⟨by rfl, ?_⟩) hHeld ?_
    rotate_left
    · (intro w hSw; go_simp; (try with_reducible rfl))
    simp only [Act.put, List.getElem_toArray, List.getElem_cons_zero, List.getElem_cons_succ, List.setIfInBounds_toArray, List.set_cons_zero, List.set_cons_succ]
    refine wpAnyH_take (i := 22) (v := ?_) rfl (by kernel_rfl) (by kernel_rfl) (by kernel_rfl) (fun _ _ _ h => h) (Or.inl ⟨by rfl, ?_⟩) hHeld ?_
    rotate_left
    · (intro w hSw; go_simp; (try with_reducible rfl))
    simp only [Act.put, List.getElem_toArray, List.getElem_cons_zero, List.getElem_cons_succ, List.setIfInBounds_toArray, List.set_cons_zero, List.set_cons_succ]
    refine wpAnyH_take (i := 24) (v := ?_) rfl (by kernel_rfl) (by kernel_rfl) (by kernel_rfl) (fun _ _ _ h => h) (Or.inl ⟨by rfl, ?_⟩) hHeld ?_
    rotate_left
    · (intro w hSw; go_simp; (try with_reducible rfl))
    simp only [Act.put, List.getElem_toArray, List.getElem_cons_zero, List.getElem_cons_succ, List.setIfInBounds_toArray, List.set_cons_zero, List.set_cons_succ]
    refine wpAnyH_take (i := 25) (v := ?_) rfl (by kernel_rfl) (by kernel_rfl) (by kernel_rfl) (fun _ _ _ h => h) (Or.inl ⟨by rfl, ?_⟩) hHeld ?_
    rotate_left
    · (intro w hSw; go_simp; (try with_reducible rfl))
    simp only [Act.put, List.getElem_toArray, List.getElem_cons_zero, List.getElem_cons_succ, List.setIfInBounds_toArray, List.set_cons_zero, List.set_cons_succ]
    refine wpAnyH_take (i := 26) (v := ?_) rfl (by kernel_rfl) (by kernel_rfl) (by kernel_rfl) (fun _ _ _ h => h) (Or.inl ⟨by rfl, ?_⟩) hHeld ?_
    rotate_left
    · (intro w hSw; go_simp; (try with_reducible rfl))
    simp only [Act.put, List.getElem_toArray, List.getElem_cons_zero, List.getElem_cons_succ, List.setIfInBounds_toArray, List.set_cons_zero, List.set_cons_succ]
    refine wpAnyH_ready (rs := [23]) (by kernel_rfl) (by simp) ?_
    refine AllReadyH.cons rfl (fun K hK => ?_) AllReadyH.nil
    try simp only [List.getElem_toArray, List.getElem_cons_zero, List.getElem_cons_succ]
    have hne := E.next p J F (w10.drewN m11) (HR.out.to hI11.1) HJ.out.ok HJ.out.l (HR.out.z hI11.1)
    rw [show J.last + 1 = x1 from HX1.out] at hne
    go_simp
    refine hne.mono ?_
    clear hne
    rintro en w12 ⟨rfl, hb12⟩
    have hI12 := And.intro (keepB hb12 hI11.1) (hI11.2.keep hb12)
    go_wp2_with fail
    refine hK.out _ _ hI12.2 (fun _ => ?_)
    clear hK K
    try simp only [Act.put, List.setIfInBounds_toArray, List.set_cons_zero, List.set_cons_succ]
    clear hHeld
    have hHeld := hI12.2
    refine wpAnyH_take (i := 27) (v := ?_) rfl (by kernel_rfl) (by kernel_rfl) (by kernel_rfl) (fun _ _ _ h => h) (Or.inl ⟨by rfl, ?_⟩) hHeld ?_
    rotate_left
    · (intro w hSw; go_simp; (try with_reducible rfl))
    simp only [Act.put, List.getElem_toArray, List.getElem_cons_zero, List.getElem_cons_succ, List.setIfInBounds_toArray, List.set_cons_zero, List.set_cons_succ]
    refine wpAnyH_take (i := 28) (v := ?_) rfl (by kernel_rfl) (by kernel_rfl) (by kernel_rfl) (fun _ _ _ h => h) (Or.inl ⟨by rfl, ?_⟩) hHeld ?_
    rotate_left
    · (intro w hSw; go_simp; (try with_reducible rfl))
    simp only [Act.put, List.getElem_toArray, List.getElem_cons_zero, List.getElem_cons_succ, List.setIfInBounds_toArray, List.set_cons_zero, List.set_cons_succ]
    refine wpAnyH_take (i := 29) (v := ?_) rfl (by kernel_rfl) (by kernel_rfl) (by kernel_rfl) (fun _ _ _ h => h) (Or.inl ⟨by rfl, ?_⟩) hHeld ?_
    rotate_left
    · (intro w hSw; go_simp; (try with_reducible rfl))
    simp only [Act.put, List.getElem_toArray, List.getElem_cons_zero, List.getElem_cons_succ, List.setIfInBounds_toArray, List.set_cons_zero, List.set_cons_succ]
    refine wpAnyH_done (by kernel_rfl) ?_ _
    refine hK0 _ _ ?_
    have hbF := hI12.1
    go_wp2_with fail
    go_ret
    exact ⟨rfl, hbF⟩
end Go.Proofs.Ytncmfkmgaghklaa
