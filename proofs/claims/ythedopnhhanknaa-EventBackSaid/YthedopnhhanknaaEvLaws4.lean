/- Layer 12: the law EventBack. -/
import Derived.Test.YthedopnhhanknaaEvLw
import Derived.Test.YthedopnhhanknaaEvG5
namespace Go.Proofs.Ythedopnhhanknaa
open Go.RowKit Ex
set_option maxRecDepth 100000
theorem inv_I {e : EvT} (h : EvI e) : EvI (invE e) := by
  unfold invE
  have h0 : N64 0 := ⟨by decide, by decide⟩
  have h5 : N64 5 := ⟨by decide, by decide⟩
  have h1 : N64 1 := ⟨by decide, by decide⟩
  repeat' split
  · exact ⟨h5, h.a, h.b, h.c, h.d, h.e⟩
  · exact ⟨h0, h.a, h.b, h.c, h.d, h.e⟩
  · exact ⟨h1, h.a, h.d, h.e, h.b, h.c⟩
  · exact ⟨h.k, h.a, h.b, h.d, h.c, h.e⟩
  · exact h
theorem apply_chk {s : StT} {e : EvT} (h : (applyS s e).2 = 0) : chkE e = 0 := by
  refine Classical.byContradiction fun h2 => h2 ?_
  unfold applyS at h
  rw [if_pos h2] at h
  exact h
theorem inv_sets {e : EvT} (h : chkE e = 0) (h2 : chkE (invE e) ≠ 0) : 2 ≤ e.k ∧ e.k ≤ 4 := by
  obtain ⟨k, a, b, c, d, f⟩ := e
  rcases chkE_kind h with ⟨hk, h1⟩ | ⟨hk, h1⟩ | ⟨hk, h1⟩ | ⟨hk, h1⟩ | ⟨hk, h1⟩ | ⟨hk, h1⟩
  all_goals simp only at hk h1 ⊢
  all_goals subst hk
  · refine absurd ?_ h2
    show chkE ⟨5, a, b, c, d, f⟩ = 0
    rw [ck5, if_pos (by omega), if_pos (by omega)]
  · refine absurd ?_ h2
    show chkE ⟨0, a, b, c, d, f⟩ = 0
    rw [ck0, if_pos (by omega), if_pos (by omega)]
  · refine absurd ?_ h2
    show chkE ⟨1, a, d, f, b, c⟩ = 0
    rw [ck1, if_pos (by omega)]
  · omega
  · omega
  · omega
/-- An object's number is written, of a state in blocks of the call's own. -/
theorem OwnS.setO {W : World} {base g n c : Nat} {s : StT} {L : Nat → SlT} (h : OwnS W base s ⟨some ⟨g, 0, none⟩, n, c⟩ L) {i j : Nat} (hi : i < s.objs.length) (hj : j < 18) (x : Int) :
    OwnS (W.setCell ⟨g, i * 18 + j, none⟩ (.int .i64 x)) base ⟨setO s.objs i j x, s.lists, s.pl, s.gm⟩ ⟨some ⟨g, 0, none⟩, n, c⟩ L := by
  have ho : W.ownsRow base 61 18 (.slice (some ⟨g, 0, none⟩) n c) n (flatO s.objs) := h.o
  obtain ⟨g', e', hcell, hfr, hb, hset⟩ := owns_set ho hi hj
  obtain rfl : g = g' := by injection e' with e'; injection e'
  refine ⟨?_, hset x, fun z hz => ⟨(h.l z hz).1, owns_keep (h.l z hz).2 fun k hk => heap_setCell_other W ⟨g, i * 18 + j, none⟩ k _ ?_⟩, h.d⟩
  · show n = (Go.Proofs.Ythedopnhhanknaa.setO s.objs i j x).length
    rw [setO_len]; exact h.on
  · intro e
    have e : k = g := by simpa using e
    subst e
    obtain ⟨_, cur, hc⟩ := own_ty (h.l z hz).2 hk
    obtain ⟨_, cur2, hc2⟩ := own_ty ho (j := k) rfl
    exact absurd (ty_same hc hc2) (by decide)
theorem obj_cell2 {B : Nat} {w : World} {A : Option Addr} {l : List (Nat → Int)} (h : RdO B w A l) {i j : Nat} (hi : i < l.length) (hj : j < 18) : ∃ b off, A = some ⟨b, off, none⟩ ∧ b < B ∧ w.cell? ⟨b, off + i * 18 + j, none⟩ = some (.int .i64 ((l.getD i fun _ => 0) j)) := by
  obtain ⟨b, off, e, hb, hr⟩ := h i l[i] (List.getElem?_eq_getElem hi)
  refine ⟨b, off, e, hb, ?_⟩
  rw [getD_in _ hi]
  exact hr j _ (by rw [Array.getElem?_toList, arr_get .i64 18 _ hj])
/-- The state that Apply answered, in its box. -/
structure UB (gu base : Nat) (cU : Array Value) (u : StT) (O : SlT) (L : Nat → SlT) (W : World) : Prop where
  a : StAt W gu cU
  c : cU = stC O L u.pl u.gm
  o : OwnS W base u O L
  i : I64S u
theorem UB.reads {gu base : Nat} {cU : Array Value} {u : StT} {O : SlT} {L : Nat → SlT} {W : World} (h : UB gu base cU u O L W) : ReadsS W.heap.size W cU u O L := by
  rw [h.c]; exact h.o.reads h.i.o h.i.l h.i.p h.i.g
theorem UB.set_ {gu base g n c : Nat} {cU : Array Value} {u : StT} {L : Nat → SlT} {W : World} (h : UB gu base cU u ⟨some ⟨g, 0, none⟩, n, c⟩ L W) {i j : Nat} (hi : i < u.objs.length) (hj : j < 18) {x : Int} (hx : N64 x) :
    UB gu base cU ⟨setO u.objs i j x, u.lists, u.pl, u.gm⟩ ⟨some ⟨g, 0, none⟩, n, c⟩ L (W.setCell ⟨g, i * 18 + j, none⟩ (.int .i64 x)) := by
  refine ⟨?_, h.c, h.o.setO hi hj x, h.i.setO hi j hx⟩
  refine (heap_setCell_other W ⟨g, i * 18 + j, none⟩ gu _ ?_).trans h.a
  intro e
  have e : gu = g := by simpa using e
  subst e
  obtain ⟨_, cur2, hc2⟩ := own_ty h.o.o (j := gu) rfl
  exact absurd (ty_same h.a hc2) (by decide)
theorem UB.keep {gu base : Nat} {cU : Array Value} {u : StT} {O : SlT} {L : Nat → SlT} {W W' : World} (h : UB gu base cU u O L W) (hb : Below W.heap.size W W') : UB gu base cU u O L W' := ⟨h.a.keep hb, h.c, h.o.below hb, h.i⟩
theorem load_evU4 {ops : Array Oper} {rest : List Oper} {op : Oper} {a : Act} {w : World} {Q : Exit → Act → World → Prop} (hw : Region.wanted op (yielded ops a.tmps) = true) (x : Operand) (ho : op.op = .load 31 x)
    (g : Nat) (hx : a.eval x = .pointer (some ⟨g, 0, none⟩)) (e : EvT) (h : EvB w g e)
    (hK : wpList Try.prog ops Q rest (a.put op.dst (.agg #[.int .i64 e.k, .int .i64 e.a, .int .i64 e.b, .int .i64 e.c, .int .i64 e.d, .int .i64 e.e])) w) : wpList Try.prog ops Q (op :: rest) a w := load_ev hw x ho g hx e h hK
theorem OwnS.row {W : World} {base g : Nat} {s : StT} {O : SlT} {L : Nat → SlT} (h : OwnS W base s O L) {c1 : Array Value} (hg : StAt W g c1) (c2 : Array Value) : OwnS (W.setRow g c2) base s O L := by
  have hne : ∀ {k n : Nat} {t : TypeId} {v : Value} {xs : List Value}, W.ownsRow base t k v n xs → t ≠ 29 → ∀ j, v.ownBlock = some j → (W.setRow g c2).heap[j]? = W.heap[j]? := fun ho ht j hj => by
    refine setRow_other W g j c2 ?_
    rintro rfl
    obtain ⟨_, cur, hc⟩ := own_ty ho hj
    exact ht (ty_same hc hg)
  exact ⟨h.on, owns_keep h.o (hne h.o (by decide)), fun z hz => ⟨(h.l z hz).1, owns_keep (h.l z hz).2 (hne (h.l z hz).2 (by decide))⟩, h.d⟩
theorem region_stay4 {P : Program} {ops : Array Oper} {Q : Exit → Act → World → Prop} (g : Nat) {id : Nat} {a : Act} {w : World} (hm : P.follows .mixedOrders = true)
    (h : Stay g w w.drew → wpAnyH P .any ops Q (fun W => Stay g w W) ops.size (Array.replicate ops.size false) a w.drew) : (Code.region id ops true).wp P Q a w :=
  wp_region_held hm (h ⟨rfl, rfl, rfl, Nat.le_refl _, fun _ _ _ => rfl⟩)
set_option linter.unusedSimpArgs false in
set_option maxHeartbeats 0 in
theorem eventBack_walk {w : World} (E : EvSaid w) (s : StT) (O : SlT) (L : Nat → SlT) (cs : Array Value) (e : EvT) (hR : ReadsS w.heap.size w cs s O L) (hI : EvI e) :
    Calls Try.prog 6 #[.agg cs, evV e] w fun en w' => en = .returned (.bool true) ∧ Below w.heap.size w w' := by
  have hcs := hR.size
  have HR := Lib.hid hR
  have HI := Lib.hid hI
  have HLen := Lib.hid (ap_len s e)
  obtain ⟨t, ht⟩ : ∃ t, t = (applyS s e).1 := ⟨_, rfl⟩
  obtain ⟨r, hr⟩ : ∃ r, r = (applyS s e).2 := ⟨_, rfl⟩
  have HT := Lib.hid ht
  have HRr := Lib.hid hr
  clear hR hI ht hr
  go_enter Try.func6, Try.ntmps6
  go_upto_region 1 with fail
  obtain ⟨w1, hw1⟩ : ∃ w1, w1 = (w.alloc (.cells cs 29)).alloc (.cells (evC e) 31) := ⟨_, rfl⟩
  obtain ⟨gs, hgs⟩ : ∃ g, g = w.heap.size := ⟨_, rfl⟩
  obtain ⟨ge, hge⟩ : ∃ g, g = gs + 1 := ⟨_, rfl⟩
  have HW := Lib.hid (show LW w gs ge cs e w1 from by
    have h1 : Below (w.alloc (.cells cs 29)).heap.size (w.alloc (.cells cs 29)) w1 := by rw [hw1]; exact (Below.refl _ _).alloc (Nat.le_refl _) _
    have h0 : Below w.heap.size w (w.alloc (.cells cs 29)) := (Below.refl _ _).alloc (Nat.le_refl _) _
    refine ⟨keepB h1 h0, by rw [hgs]; exact (StAt.new w cs).keep h1, ?_⟩
    have h := heap_alloc_new (w.alloc (.cells cs 29)) (.cells (evC e) 31)
    rw [hge, hgs, hw1]
    unfold EvB
    rw [World.size_alloc] at h
    exact h)
  have HS := Lib.hid (show BW gs cs s O L w1 from ⟨HW.out.s, by rw [hgs]; exact HR.out.below HW.out.b⟩)
  show Code.wp _ _ _ _ ((w.alloc (.cells cs 29)).alloc (.cells (evC e) 31))
  rw [← hw1, ← hgs]
  try rw [← hge]
  have HGe := Lib.hid (And.intro hgs hge)
  clear hw1 hgs hge
  go_wp2_with fail
  refine (evAlive E w1 HW.out.b).mono ?_
  rintro en w2 ⟨rfl, hb2⟩
  have HW2 := Lib.hid (HW.out.keep hb2)
  have HS2 := Lib.hid (HS.out.keep hb2)
  have hsa := HS2.out.a
  clear HW HS hb2
  go_wp2_with (refine load_wantS (by rfl) (.tmp 2) rfl gs rfl cs hsa hcs ?_)
  have hl := long_any s O L cs 200 w2 w2.heap.size HS2.out.reads (by omega)
  rw [show ((200 : Nat) : Int) = 200 from rfl] at hl
  refine hl.mono ?_
  clear hl hsa
  rintro en w3 ⟨rfl, hb3⟩
  have HW3 := Lib.hid (HW2.out.keep hb3)
  have HS3 := Lib.hid (HS2.out.keep hb3)
  clear HW2 HS2 hb3
  by_cases hlg : longS s 200 = true
  · have hbw := HW3.out.b
    rw [hlg]
    go_wp2_with fail
    go_ret
    exact ⟨rfl, hbw⟩
  replace hlg : longS s 200 = false := by simpa using hlg
  obtain ⟨hn, hll⟩ := long_not (most := 200) hlg
  rw [hlg]
  have HNl := Lib.hid (And.intro hn hll)
  clear hlg hn hll
  go_upto_region 5 with fail
  have hnq := fun W => neq_ev e W
  unfold evV at hnq
  refine region_below (by kernel_rfl) (fun hHeld => ?_)
  refine wpAnyH_take (i := 0) (v := .agg #[.int .i64 e.k, .int .i64 e.a, .int .i64 e.b, .int .i64 e.c, .int .i64 e.d, .int .i64 e.e]) rfl (by kernel_rfl) (by kernel_rfl) (by kernel_rfl) (fun _ _ _ h => h) (yields_evb (by rfl) (.tmp 3) rfl ge rfl e (fun W hW => (HW3.out.e).keep hW)) hHeld ?_
  simp only [Act.put, List.getElem_toArray, List.getElem_cons_zero, List.getElem_cons_succ, List.setIfInBounds_toArray, List.set_cons_zero, List.set_cons_succ]
  refine wpAnyH_take (i := 3) (v := .agg #[.int .i64 e.k, .int .i64 e.a, .int .i64 e.b, .int .i64 e.c, .int .i64 e.d, .int .i64 e.e]) rfl (by kernel_rfl) (by kernel_rfl) (by kernel_rfl) (fun _ _ _ h => h) (yields_evb (by rfl) (.tmp 3) rfl ge rfl e (fun W hW => (HW3.out.e).keep hW)) hHeld ?_
  simp only [Act.put, List.getElem_toArray, List.getElem_cons_zero, List.getElem_cons_succ, List.setIfInBounds_toArray, List.set_cons_zero, List.set_cons_succ]
  refine wpAnyH_ready (rs := [1]) (by kernel_rfl) (by simp) ?_
  refine AllReadyH.cons rfl (fun K hK => ?_) AllReadyH.nil
  simp only [List.getElem_toArray, List.getElem_cons_zero, List.getElem_cons_succ]
  go_simp
  refine (E.inv e _ HI.out (keepB hHeld HW3.out.b)).mono ?_
  rintro en v1 ⟨rfl, hb⟩
  go_wp2_with fail
  have hHeld := keepB hb hHeld
  refine hK.out _ _ hHeld (fun _ => ?_)
  clear hK K
  try simp only [Act.put, List.setIfInBounds_toArray, List.set_cons_zero, List.set_cons_succ]
  refine wpAnyH_ready (rs := [2]) (by kernel_rfl) (by simp) ?_
  refine AllReadyH.cons rfl (fun K hK => ?_) AllReadyH.nil
  simp only [List.getElem_toArray, List.getElem_cons_zero, List.getElem_cons_succ]
  go_simp
  have hin := E.inv (invE e) v1 (inv_I HI.out) (keepB hHeld HW3.out.b)
  rw [inv_inv] at hin
  refine hin.mono ?_
  clear hin
  rintro en v2 ⟨rfl, hb⟩
  rw [show evV e = .agg #[.int .i64 e.k, .int .i64 e.a, .int .i64 e.b, .int .i64 e.c, .int .i64 e.d, .int .i64 e.e] from rfl]
  go_wp2_with fail
  have hHeld := keepB hb hHeld
  refine hK.out _ _ hHeld (fun _ => ?_)
  clear hK K
  try simp only [Act.put, List.setIfInBounds_toArray, List.set_cons_zero, List.set_cons_succ]
  refine wpAnyH_take (i := 4) (v := ?_) rfl (by kernel_rfl) (by kernel_rfl) (by kernel_rfl) (fun _ _ _ h => h) (Or.inl ⟨by rfl, ?_⟩) hHeld ?_
  rotate_left
  · (intro w hSw; go_simp; (try with_reducible rfl))
  simp only [Act.put, List.getElem_toArray, List.getElem_cons_zero, List.getElem_cons_succ, List.setIfInBounds_toArray, List.set_cons_zero, List.set_cons_succ]
  refine wpAnyH_done (by kernel_rfl) ?_ _
  have HW5 := Lib.hid (HW3.out.keep hHeld)
  have HS5 := Lib.hid (HS3.out.keep hHeld)
  clear HW3 HS3 hHeld
  go_upto_region 7 with fail
  clear hnq
  obtain ⟨v3, hv3⟩ : ∃ v, v = v2 := ⟨_, rfl⟩
  rw [← hv3] at HW5 HS5 ⊢
  clear hv3
  have hse := HW5.out.e
  have hck := E.check e v3 HI.out HW5.out.b
  obtain ⟨ce, hce⟩ : ∃ ce, ce = chkE e := ⟨_, rfl⟩
  rw [← hce] at hck
  by_cases hc0 : ce = 0
  case neg =>
    have HR0 := Lib.hid (show r ≠ 0 from by rw [HRr.out]; unfold applyS; rw [if_pos (by rw [← hce]; exact hc0), ← hce]; exact hc0)
    have HT0 := Lib.hid (show t = sT0 from by rw [HT.out]; exact apply_bad (by rw [← HRr.out]; exact HR0.out))
    rw [errV_err hc0] at hck
    clear hc0 hce
    go_wp2_with (refine load_ev (by rfl) (.tmp 3) rfl ge rfl e hse ?_)
    refine hck.mono ?_
    rintro en y1 ⟨rfl, hb⟩
    clear hck hse
    have HW7 := Lib.hid (HW5.out.keep hb)
    have HS7 := Lib.hid (HS5.out.keep hb)
    clear HW5 HS5 hb
    go_upto_region 11 with fail
    have hap := E.apply s O L cs e y1 HS7.out.reads (by have := HNl.out.1; omega) (fun z hz => by have := HNl.out.2 z hz; omega) HI.out HW7.out.b
    unfold EvAP at hap
    rw [← HT.out, ← HRr.out] at hap
    have hsa := HS7.out.a
    have hse := HW7.out.e
    go_wp2_with (first
      | (refine load_wantS (by rfl) (.tmp 2) rfl gs rfl cs hsa hcs ?_)
      | (refine load_ev (by rfl) (.tmp 3) rfl ge rfl e hse ?_))
    refine hap.mono ?_
    rintro en y2 ⟨cT, OT, LT, rfl, hRT, _, hb6⟩
    clear hap hsa hse
    have HW8 := Lib.hid (HW7.out.keep hb6)
    have HS8 := Lib.hid (HS7.out.keep hb6)
    have hcT := hRT.size
    clear HW7 HS7 hb6
    have hnew : (World.alloc y2 (.cells st0 29)).heap[(World.heap y2).size]? = some (.cells st0 29 (0, 0)) := heap_alloc_new _ _
    have hsz : (Try.prog.info? 29).map (·.size) = some cT.size := by rw [hRT.size]; exact size37
    have hs0 : st0.size = cT.size := by rw [hRT.size, show st0.size = 37 from stC_size _ _ _ _]
    have hone := hRT.one
    have hz := st0_is
    go_upto_region 12 with (refine wpList_store_row rfl 29 (.tmp 7) (.tmp 39) rfl (World.heap y2).size _ rfl rfl 29 st0 hnew hsz hs0 hone ?_)
    clear hnew hsz hs0 hone hz
    obtain ⟨y3, hy3, hA7, hb7⟩ := box_new y2 cT
    rw [← hy3]
    have HW9 := Lib.hid (HW8.out.keep hb7)
    have HS9 := Lib.hid (HS8.out.keep hb7)
    have HT9 := Lib.hid (BW.new hRT hA7 hb7)
    obtain ⟨g7, hg7⟩ : ∃ g, g = y2.heap.size := ⟨_, rfl⟩
    rw [← hg7] at HT9 ⊢
    clear hy3 hA7 hb7 hRT HW8 HS8 hg7
    have hst := states_any sT0 sT0 OT nilS LT (fun _ => nilS) cT st0 y3 (by have h := HT9.out.reads; rw [HT0.out] at h; exact h) (reads_0 _ _) (by simp [sT0]) (by simp [sT0]) (fun z _ => by simp [sT0]) (fun z _ => by simp [sT0])
    rw [sameS_refl] at hst
    have hta := HT9.out.a
    have hbw9 := HW9.out.b
    rw [errV_err HR0.out]
    go_wp2_with (first
      | (refine load_wantS (by rfl) (.tmp 7) rfl g7 rfl cT hta hcT ?_)
      | (refine wpList_build0 rfl rfl ?_))
    refine hst.mono ?_
    rintro en y4 ⟨rfl, hb⟩
    go_wp2_with fail
    go_ret
    exact ⟨rfl, keepB hb hbw9⟩
  subst hc0
  rw [errV_nil] at hck
  have HC := Lib.hid hce.symm
  clear hce
  go_wp2_with (refine load_ev (by rfl) (.tmp 3) rfl ge rfl e hse ?_)
  refine hck.mono ?_
  rintro en v4 ⟨rfl, hb⟩
  clear hck hse
  have HW6 := Lib.hid (HW5.out.keep hb)
  have HS6 := Lib.hid (HS5.out.keep hb)
  clear HW5 HS5 hb
  have hse := HW6.out.e
  go_upto_region 8 with fail
  go_wp2_with (refine load_ev (by rfl) (.tmp 3) rfl ge rfl e hse ?_)
  refine (E.bytes e v4 HI.out HW6.out.b).mono ?_
  rintro en v5 ⟨Ab, nb, cb, rfl, hNb, hcb, hb⟩
  clear hse
  have HW61 := Lib.hid (HW6.out.keep hb)
  have HS61 := Lib.hid (HS6.out.keep hb)
  have hpa := E.parse Ab nb cb (bytesE e) v5 hNb hcb (bytesE_by HI.out) (by have := bytesE_few e; have := hNb.len; omega) HW61.out.b
  rw [parse_bytesE HI.out HC.out, errV_nil] at hpa
  clear HW6 HS6 hb hNb hcb
  go_wp2_with fail
  refine hpa.mono ?_
  rintro en v6 ⟨rfl, hb⟩
  clear hpa
  have HW62 := Lib.hid (HW61.out.keep hb)
  have HS62 := Lib.hid (HS61.out.keep hb)
  clear HW61 HS61 hb
  have hz6 := ev0_is
  have hnew : (v6.alloc (.cells (evC ev0) 31)).heap[v6.heap.size]? = some (.cells (evC ev0) 31 (0, 0)) := heap_alloc_new _ _
  have hsx := ev_size e
  have hox := evC_one e
  go_upto_region 9 with (refine wpList_store_row rfl 31 (.tmp 5) (.tmp 26) rfl v6.heap.size (evC e) rfl rfl 31 (evC ev0) hnew hsx rfl hox ?_)
  obtain ⟨y1, hy1, hE7, hb7⟩ := ev_box v6 e
  rw [← hy1]
  have HW7 := Lib.hid (HW62.out.keep hb7)
  have HS7 := Lib.hid (HS62.out.keep hb7)
  obtain ⟨g5, hg5⟩ : ∃ g, g = v6.heap.size := ⟨_, rfl⟩
  rw [← hg5] at hE7 ⊢
  clear hy1 hg5 hnew hsx hox hz6 hb7 HW62 HS62
  have hse := HW7.out.e
  have hnq := fun W => neq_ev e W
  unfold evV at hnq
  go_upto_region 11 with (first
    | (refine load_evU4 (by rfl) (.tmp 5) rfl g5 rfl e hE7 ?_)
    | (refine load_evU4 (by rfl) (.tmp 3) rfl ge rfl e hse ?_))
  clear hnq hse hE7
  have hap := E.apply s O L cs e y1 HS7.out.reads (by have := HNl.out.1; omega) (fun z hz => by have := HNl.out.2 z hz; omega) HI.out HW7.out.b
  unfold EvAP at hap
  rw [← HT.out, ← HRr.out] at hap
  have hsa := HS7.out.a
  have hse := HW7.out.e
  go_wp2_with (first
    | (refine load_wantS (by rfl) (.tmp 2) rfl gs rfl cs hsa hcs ?_)
    | (refine load_ev (by rfl) (.tmp 3) rfl ge rfl e hse ?_))
  refine hap.mono ?_
  rintro en y2 ⟨cT, OT, LT, rfl, hRT, _, hb6⟩
  clear hap hsa hse
  have HW8 := Lib.hid (HW7.out.keep hb6)
  have HS8 := Lib.hid (HS7.out.keep hb6)
  have hcT := hRT.size
  clear HW7 HS7 hb6
  have hnew : (World.alloc y2 (.cells st0 29)).heap[(World.heap y2).size]? = some (.cells st0 29 (0, 0)) := heap_alloc_new _ _
  have hsz : (Try.prog.info? 29).map (·.size) = some cT.size := by rw [hRT.size]; exact size37
  have hs0 : st0.size = cT.size := by rw [hRT.size, show st0.size = 37 from stC_size _ _ _ _]
  have hone := hRT.one
  have hz := st0_is
  go_upto_region 12 with (refine wpList_store_row rfl 29 (.tmp 7) (.tmp 39) rfl (World.heap y2).size _ rfl rfl 29 st0 hnew hsz hs0 hone ?_)
  clear hnew hsz hs0 hone hz
  obtain ⟨y3, hy3, hA7, hb7⟩ := box_new y2 cT
  rw [← hy3]
  have HW9 := Lib.hid (HW8.out.keep hb7)
  have HS9 := Lib.hid (HS8.out.keep hb7)
  have HT9 := Lib.hid (BW.new hRT hA7 hb7)
  obtain ⟨g7, hg7⟩ : ∃ g, g = y2.heap.size := ⟨_, rfl⟩
  rw [← hg7] at HT9 ⊢
  clear hy3 hA7 hb7 hRT HW8 HS8 hg7
  by_cases hr0 : r = 0
  case neg =>
    have HR0 := Lib.hid hr0
    have HT0 := Lib.hid (show t = sT0 from by rw [HT.out]; exact apply_bad (by rw [← HRr.out]; exact hr0))
    clear hr0
    have hst := states_any sT0 sT0 OT nilS LT (fun _ => nilS) cT st0 y3 (by have h := HT9.out.reads; rw [HT0.out] at h; exact h) (reads_0 _ _) (by simp [sT0]) (by simp [sT0]) (fun z _ => by simp [sT0]) (fun z _ => by simp [sT0])
    rw [sameS_refl] at hst
    have hta := HT9.out.a
    have hbw9 := HW9.out.b
    rw [errV_err HR0.out]
    go_wp2_with (first
      | (refine load_wantS (by rfl) (.tmp 7) rfl g7 rfl cT hta hcT ?_)
      | (refine wpList_build0 rfl rfl ?_))
    refine hst.mono ?_
    rintro en y4 ⟨rfl, hb⟩
    go_wp2_with fail
    go_ret
    exact ⟨rfl, keepB hb hbw9⟩
  subst hr0
  rw [errV_nil]
  have hse := HW9.out.e
  go_upto_region 14 with fail
  go_wp2_with (refine load_ev (by rfl) (.tmp 3) rfl ge rfl e hse ?_)
  refine (E.inv e y3 HI.out HW9.out.b).mono ?_
  rintro en y31 ⟨rfl, hb⟩
  have HW10 := Lib.hid (HW9.out.keep hb)
  have HS10 := Lib.hid (HS9.out.keep hb)
  have HT10 := Lib.hid (HT9.out.keep hb)
  clear hse HW9 HS9 HT9 hb
  have hck := E.check (invE e) y31 (inv_I HI.out) HW10.out.b
  obtain ⟨ci, hci⟩ : ∃ ci, ci = chkE (invE e) := ⟨_, rfl⟩
  rw [← hci] at hck
  by_cases hc1 : ci = 0
  case neg =>
    have hks := inv_sets HC.out (by rw [← hci]; exact hc1)
    have hset := E.sets e
    rw [show (decide (2 ≤ e.k) && decide (e.k ≤ 4)) = true by simp [hks]] at hset
    rw [errV_err hc1] at hck
    clear hks hci hc1
    go_wp2_with fail
    refine hck.mono ?_
    rintro en y32 ⟨rfl, hb⟩
    clear hck
    have hbw := keepB hb HW10.out.b
    have hse := HW10.out.e.keep hb
    go_wp2_with (refine load_ev (by rfl) (.tmp 3) rfl ge rfl e hse ?_)
    refine (hset y32 HI.out hbw).mono ?_
    rintro en y33 ⟨rfl, hb3⟩
    go_wp2_with fail
    go_ret
    exact ⟨rfl, keepB hb3 hbw⟩
  subst hc1
  rw [errV_nil] at hck
  have HCi := Lib.hid hci.symm
  clear hci
  go_wp2_with fail
  refine hck.mono ?_
  rintro en y4 ⟨rfl, hb⟩
  clear hck
  have HW14 := Lib.hid (HW10.out.keep hb)
  have HS14 := Lib.hid (HS10.out.keep hb)
  have HT14 := Lib.hid (HT10.out.keep hb)
  clear HW10 HS10 HT10 hb
  go_upto_region 16 with fail
  have hap : applyS s e = (t, 0) := by rw [HT.out, HRr.out]
  obtain ⟨u, hu, hsame, hul, hk1⟩ := apply_back (by have := HNl.out.1; omega) hap HCi.out
  have HSame := Lib.hid hsame
  have HUl := Lib.hid hul
  have HK1 := Lib.hid hk1
  have htl := HLen.out
  rw [← HT.out] at htl
  have HTl := Lib.hid htl
  have HUL := Lib.hid (show ∀ z < 11, (u.lists z).length ≤ 1000000 from fun z hz => by
    have h := (ap_len t (invE e)).2 z
    rw [hu] at h
    have h2 := HTl.out.2 z
    have h3 := HNl.out.2 z hz
    simp only at h
    omega)
  have hinv := fun W hW => E.inv e W HI.out (keepB hW HW14.out.b)
  obtain ⟨ev2, hev2⟩ : ∃ v, v = evV (invE e) := ⟨_, rfl⟩
  rw [← hev2] at hinv
  have happ := fun W (hW : Below y4.heap.size y4 W) => E.apply t OT LT cT (invE e) W (HT14.out.keep hW).reads (by have := HTl.out.1; have := HNl.out.1; omega) (fun z hz => by have := HTl.out.2 z; have := HNl.out.2 z hz; omega) (inv_I HI.out) (keepB hW HW14.out.b)
  unfold EvAP at happ
  rw [hu, errV_nil, ← hev2] at happ
  have HInv := Lib.hid hinv
  have HApp := Lib.hid happ
  clear hinv happ hev2 hap hsame hul hk1 htl hu
  refine region_below (by kernel_rfl) (fun hHeld => ?_)
  refine wpAnyH_take (i := 0) (v := .agg cT) rfl (by kernel_rfl) (by kernel_rfl) (by kernel_rfl) (fun _ _ _ h => h) (yields_st (by rfl) (.tmp 7) rfl g7 rfl cT hcT (fun W hW => (HT14.out.a).keep hW)) hHeld ?_
  simp only [Act.put, List.getElem_toArray, List.getElem_cons_zero, List.getElem_cons_succ, List.setIfInBounds_toArray, List.set_cons_zero, List.set_cons_succ]
  refine wpAnyH_take (i := 1) (v := evV e) rfl (by kernel_rfl) (by kernel_rfl) (by kernel_rfl) (fun _ _ _ h => h) (yields_evb (by rfl) (.tmp 3) rfl ge rfl e (fun W hW => (HW14.out.e).keep hW)) hHeld ?_
  simp only [Act.put, List.getElem_toArray, List.getElem_cons_zero, List.getElem_cons_succ, List.setIfInBounds_toArray, List.set_cons_zero, List.set_cons_succ]
  have hz37 := st0_is
  generalize y4.drew = W0 at hHeld ⊢
  refine wpAnyH_ready (rs := [2, 7]) (by kernel_rfl) (by simp) ?_
  refine AllReadyH.cons rfl (fun K hK => ?_) (AllReadyH.cons rfl (fun K hK => ?_) AllReadyH.nil)
  all_goals simp only [List.getElem_toArray, List.getElem_cons_zero, List.getElem_cons_succ]
  all_goals go_simp
  · skip
    refine (HInv.out _ hHeld).mono ?_
    rintro en W8 ⟨rfl, hb8⟩
    go_wp2_with fail
    have hHeld := keepB hb8 hHeld
    refine hK.out _ _ hHeld (fun _ => ?_)
    clear hK K
    try simp only [Act.put, List.setIfInBounds_toArray, List.set_cons_zero, List.set_cons_succ]
    refine wpAnyH_ready (rs := [3, 7]) (by kernel_rfl) (by simp) ?_
    refine AllReadyH.cons rfl (fun K hK => ?_) (AllReadyH.cons rfl (fun K hK => ?_) AllReadyH.nil)
    all_goals simp only [List.getElem_toArray, List.getElem_cons_zero, List.getElem_cons_succ]
    all_goals go_simp
    · skip
      have hbase := hHeld.size
      refine (HApp.out _ hHeld).mono ?_
      rintro en W9 ⟨cU, OU, LU, rfl, hRU, hOU, hb9⟩
      go_wp2_with fail
      have hOU := hOU.low hbase
      have hc37 : cU.size = 37 := hRU.size
      have HCU := Lib.hid (show cU = stC OU LU u.pl u.gm from hRU.cs)
      have HIU := Lib.hid hRU.i64
      have hcone := hRU.one
      clear hRU hbase
      have hHeld := keepB hb9 hHeld
      refine hK.out _ _ hHeld (fun _ => ?_)
      clear hK K
      try simp only [Act.put, List.setIfInBounds_toArray, List.set_cons_zero, List.set_cons_succ]
      refine wpAnyH_take (i := 4) (v := ?_) rfl (by kernel_rfl) (by kernel_rfl) (by kernel_rfl) (fun _ _ _ h => h) (Or.inl ⟨by rfl, ?_⟩) hHeld ?_
      rotate_left
      · (intro w hSw; go_simp; (try with_reducible rfl))
      simp only [Act.put, List.getElem_toArray, List.getElem_cons_zero, List.getElem_cons_succ, List.setIfInBounds_toArray, List.set_cons_zero, List.set_cons_succ]
      refine wpAnyH_take (i := 5) (v := ?_) rfl (by kernel_rfl) (by kernel_rfl) (by kernel_rfl) (fun _ _ _ h => h) (Or.inl ⟨by rfl, ?_⟩) hHeld ?_
      rotate_left
      · (intro w hSw; go_simp; (try with_reducible rfl))
      simp only [Act.put, List.getElem_toArray, List.getElem_cons_zero, List.getElem_cons_succ, List.setIfInBounds_toArray, List.set_cons_zero, List.set_cons_succ]
      refine wpAnyH_take (i := 6) (v := ?_) rfl (by kernel_rfl) (by kernel_rfl) (by kernel_rfl) (fun _ _ _ h => h) (Or.inl ⟨by rfl, ?_⟩) hHeld ?_
      rotate_left
      · (intro w hSw; go_simp; (try with_reducible rfl))
      simp only [Act.put, List.getElem_toArray, List.getElem_cons_zero, List.getElem_cons_succ, List.setIfInBounds_toArray, List.set_cons_zero, List.set_cons_succ]
      refine wpAnyH_ready (rs := [7]) (by kernel_rfl) (by simp) ?_
      refine AllReadyH.cons rfl (fun K hK => ?_) AllReadyH.nil
      simp only [List.getElem_toArray, List.getElem_cons_zero, List.getElem_cons_succ]
      go_simp
      obtain ⟨W7, hW7⟩ : ∃ W7, W7 = World.alloc W9 (.cells st0 29) := ⟨_, rfl⟩
      obtain ⟨g9, hg9⟩ : ∃ g, g = (World.heap W9).size := ⟨_, rfl⟩
      have hb7 : Below (World.heap W9).size W9 W7 := by rw [hW7]; exact (Below.refl _ _).alloc (Nat.le_refl _) _
      have hBox : StAt W7 g9 st0 := by rw [hW7, hg9]; exact heap_alloc_new _ _
      have hg9w : y4.heap.size ≤ g9 := by rw [hg9]; exact hHeld.size
      rw [← hW7, ← hg9]
      clear hW7 hg9
      have hHeld := keepB hb7 hHeld
      refine hK.out _ _ hHeld (fun _ => ?_)
      clear hK K
      try simp only [Act.put, List.setIfInBounds_toArray, List.set_cons_zero, List.set_cons_succ]
      have hOU := hOU.below hb7
      refine wpAnyH_ready (rs := [8]) (by kernel_rfl) (by simp) ?_
      refine AllReadyH.cons rfl (fun K hK => ?_) AllReadyH.nil
      simp only [List.getElem_toArray, List.getElem_cons_zero, List.getElem_cons_succ]
      refine wp_store_row 29 (.tmp 9) (.tmp 57) rfl g9 _ rfl rfl 29 _ hBox (by rw [hc37]; exact size37) (by rw [hc37]; exact stC_size _ _ _ _) hcone ?_
      have HU := Lib.hid (show UB g9 y4.heap.size cU u OU LU (W7.setRow g9 cU) from ⟨setRow_heap _ _ _ _ _ _ hBox, HCU.out, hOU.row hBox cU, HIU.out⟩)
      have hHeld := below_setRow hHeld g9 cU hg9w
      refine hK.out _ _ hHeld (fun _ => ?_)
      clear hK K hBox hOU hcone
      try simp only [Act.put, List.setIfInBounds_toArray, List.set_cons_zero, List.set_cons_succ]
      refine wpAnyH_take (i := 9) (v := ?_) rfl (by kernel_rfl) (by kernel_rfl) (by kernel_rfl) (fun _ _ _ h => h) (Or.inl ⟨by rfl, ?_⟩) hHeld ?_
      rotate_left
      · (intro w hSw; go_simp; (try with_reducible rfl))
      simp only [Act.put, List.getElem_toArray, List.getElem_cons_zero, List.getElem_cons_succ, List.setIfInBounds_toArray, List.set_cons_zero, List.set_cons_succ]
      refine wpAnyH_done (by kernel_rfl) ?_ _
      generalize W7.setRow g9 cU = y5 at HU hHeld ⊢
      have HW17 := Lib.hid (HW14.out.keep hHeld)
      have HS17 := Lib.hid (HS14.out.keep hHeld)
      have hy4 := hHeld.size
      clear hHeld HInv HApp
      by_cases hk1 : e.k = 1
      · obtain ⟨ha0, hai⟩ := HK1.out hk1
        obtain ⟨i, hia⟩ : ∃ i : Nat, e.a = (i : Int) := ⟨e.a.toNat, by omega⟩
        have hi : i < s.objs.length := by omega
        have HBk := Lib.hid (show sameS ⟨setO u.objs i 3 ((s.objs.getD i fun _ => 0) 3), u.lists, u.pl, u.gm⟩ s = true from by
          have h := HSame.out
          unfold backS at h
          rw [if_pos hk1, hia, Int.toNat_natCast] at h
          exact h)
        have hiu : i < u.objs.length := by have := HUl.out; omega
        have hon := HU.out.o.on
        obtain ⟨AU, nU, cU2⟩ := OU
        simp only at hon
        have hforms := own_form HU.out.o.o (show 0 < nU by omega)
        obtain ⟨gO, hAU, _⟩ := hforms
        simp only at hAU
        subst hAU
        have how : y5.ownsRow y4.heap.size 61 18 (.slice (some ⟨gO, 0, none⟩) nU cU2) nU (flatO u.objs) := HU.out.o.o
        obtain ⟨gO', e', hcell, hfr, hbO, _⟩ := owns_set how hiu (show 3 < 18 by omega)
        obtain rfl : gO = gO' := by injection e' with e'; injection e'
        obtain ⟨xo, hxo⟩ : ∃ xo, xo = u.objs[i] 3 := ⟨_, rfl⟩
        rw [← hxo] at hcell
        clear hxo
        have p1 := HW17.out.e.cells.2.1
        have q0 := HW17.out.e.cells.1
        rw [hk1] at q0
        rw [hia] at p1
        have kU : y5.cell? ⟨g9, 0, none⟩ = some (.slice (some ⟨gO, 0, none⟩) nU cU2) := (HU.out.a.cell 0).trans (by rw [HU.out.c]; exact stC_objs _ _ _ _)
        have hsr := HS17.out.r
        have hson := hsr.on
        obtain ⟨bS, off, hOA, hbS, kx⟩ := obj_cell2 hsr.o hi (show 3 < 18 by omega)
        obtain ⟨AS, nS, cS⟩ := O
        simp only at hOA hson
        subst hOA
        have kS : y5.cell? ⟨gs, 0, none⟩ = some (.slice (some ⟨bS, off, none⟩) nS cS) := (HS17.out.a.cell 0).trans (by rw [hsr.cs]; exact stC_objs _ _ _ _)
        obtain ⟨x, hx⟩ : ∃ x, x = (s.objs.getD i fun _ => 0) 3 := ⟨_, rfl⟩
        rw [← hx] at kx
        have HBk2 := Lib.hid (show sameS ⟨setO u.objs i 3 x, u.lists, u.pl, u.gm⟩ s = true by rw [hx]; exact HBk.out)
        have hx64 : N64 x := by rw [hx, getD_in _ hi]; exact hsr.ow _ (List.getElem_mem hi) 3 (by omega)
        have g0 : (0 : Int) ≤ (i : Int) := by omega
        have g1 : (i : Int) < (nU : Int) := by omega
        have g2 : (i : Int) < (nS : Int) := by omega
        have hgs4 : gs < y4.heap.size := HS14.out.a.lt
        have HU18 := Lib.hid (HU.out.set_ (i := i) (j := 3) hiu (by omega) hx64)
        have HS18 := Lib.hid (HS17.out.stay ((Stay.refl gO y5).set_ (i * 18 + 3) (.int .i64 x)) (by omega))
        have hgU : g9 ≠ gO := by
          rintro rfl
          obtain ⟨_, cur2, hc2⟩ := own_ty HU.out.o.o (j := g9) rfl
          exact absurd (ty_same HU.out.a hc2) (by decide)
        have hge4 : ge < y4.heap.size := HW14.out.e.lt
        have kUb : ∀ W, Stay gO y5 W → W.cell? ⟨g9, 0, none⟩ = some (.slice (some ⟨gO, 0, none⟩) nU cU2) := fun W hW => (World.cell?_of_block (hW.block g9 HU.out.a.lt hgU)).trans kU
        have kSb : ∀ W, Stay gO y5 W → W.cell? ⟨gs, 0, none⟩ = some (.slice (some ⟨bS, off, none⟩) nS cS) := fun W hW => (World.cell?_of_block (hW.block gs (by omega) (by omega))).trans kS
        have kxb : ∀ W, Stay gO y5 W → W.cell? ⟨bS, off + i * 18 + 3, none⟩ = some (.int .i64 x) := fun W hW => (World.cell?_of_block (hW.block bS (by omega) (by omega))).trans kx
        have p1b : ∀ W, Stay gO y5 W → W.cell? ⟨ge, 1, none⟩ = some (.int .i64 (i : Int)) := fun W hW => (World.cell?_of_block (hW.block ge (by omega) (by omega))).trans p1
        have hbF := HW17.out.b.setCell (p := ⟨gO, i * 18 + 3, none⟩) (show w.heap.size ≤ gO from by have := HW14.out.b.size; omega) (.int .i64 x)
        clear hk1 hai ha0 hia hi hiu hon how e' hbO hsr hson hbS hx hx64 hgs4 hge4 hgU hy4 HBk HK1 HSame kU kS kx p1
        go_upto_region 18 with fail
        refine region_stay4 gO (by kernel_rfl) (fun hHeld => ?_)
        refine wpAnyH_take (i := 0) (v := ?_) rfl (by kernel_rfl) (by kernel_rfl) (by kernel_rfl) (fun _ _ _ h => h) (Or.inl ⟨by rfl, ?_⟩) hHeld ?_
        rotate_left
        · (intro w hSw; go_simp; (try with_reducible rfl))
        simp only [Act.put, List.getElem_toArray, List.getElem_cons_zero, List.getElem_cons_succ, List.setIfInBounds_toArray, List.set_cons_zero, List.set_cons_succ]
        refine wpAnyH_take (i := 1) (v := ?_) rfl (by kernel_rfl) (by kernel_rfl) (by kernel_rfl) (fun _ _ _ h => h) (Or.inl ⟨by rfl, ?_⟩) hHeld ?_
        rotate_left
        · (intro w hSw; go_simp; (try with_reducible rfl))
        simp only [Act.put, List.getElem_toArray, List.getElem_cons_zero, List.getElem_cons_succ, List.setIfInBounds_toArray, List.set_cons_zero, List.set_cons_succ]
        refine wpAnyH_take (i := 2) (v := ?_) rfl (by kernel_rfl) (by kernel_rfl) (by kernel_rfl) (fun _ _ _ h => h) (Or.inl ⟨by rfl, ?_⟩) hHeld ?_
        rotate_left
        · (intro w hSw; go_simp; (try with_reducible rfl))
        simp only [Act.put, List.getElem_toArray, List.getElem_cons_zero, List.getElem_cons_succ, List.setIfInBounds_toArray, List.set_cons_zero, List.set_cons_succ]
        refine wpAnyH_take (i := 3) (v := ?_) rfl (by kernel_rfl) (by kernel_rfl) (by kernel_rfl) (fun _ _ _ h => h) (Or.inl ⟨by rfl, ?_⟩) hHeld ?_
        rotate_left
        · (intro w hSw; go_simp; (try with_reducible rfl))
        simp only [Act.put, List.getElem_toArray, List.getElem_cons_zero, List.getElem_cons_succ, List.setIfInBounds_toArray, List.set_cons_zero, List.set_cons_succ]
        refine wpAnyH_take (i := 4) (v := ?_) rfl (by kernel_rfl) (by kernel_rfl) (by kernel_rfl) (fun _ _ _ h => h) (Or.inl ⟨by rfl, ?_⟩) hHeld ?_
        rotate_left
        · (intro w hSw; go_simp; (try with_reducible rfl))
        simp only [Act.put, List.getElem_toArray, List.getElem_cons_zero, List.getElem_cons_succ, List.setIfInBounds_toArray, List.set_cons_zero, List.set_cons_succ]
        refine wpAnyH_take (i := 5) (v := ?_) rfl (by kernel_rfl) (by kernel_rfl) (by kernel_rfl) (fun _ _ _ h => h) (Or.inl ⟨by rfl, ?_⟩) hHeld ?_
        rotate_left
        · (intro w hSw; go_simp; (try with_reducible rfl))
        simp only [Act.put, List.getElem_toArray, List.getElem_cons_zero, List.getElem_cons_succ, List.setIfInBounds_toArray, List.set_cons_zero, List.set_cons_succ]
        refine wpAnyH_take (i := 6) (v := ?_) rfl (by kernel_rfl) (by kernel_rfl) (by kernel_rfl) (fun _ _ _ h => h) (Or.inl ⟨by rfl, ?_⟩) hHeld ?_
        rotate_left
        · (intro w hSw; go_simp; (try with_reducible rfl))
        simp only [Act.put, List.getElem_toArray, List.getElem_cons_zero, List.getElem_cons_succ, List.setIfInBounds_toArray, List.set_cons_zero, List.set_cons_succ]
        refine wpAnyH_take (i := 7) (v := ?_) rfl (by kernel_rfl) (by kernel_rfl) (by kernel_rfl) (fun _ _ _ h => h) (Or.inl ⟨by rfl, ?_⟩) hHeld ?_
        rotate_left
        · (intro w hSw; go_simp; (try with_reducible rfl))
        simp only [Act.put, List.getElem_toArray, List.getElem_cons_zero, List.getElem_cons_succ, List.setIfInBounds_toArray, List.set_cons_zero, List.set_cons_succ]
        refine wpAnyH_take (i := 8) (v := ?_) rfl (by kernel_rfl) (by kernel_rfl) (by kernel_rfl) (fun _ _ _ h => h) (Or.inl ⟨by rfl, ?_⟩) hHeld ?_
        rotate_left
        · (intro w hSw; go_simp; (try with_reducible rfl))
        simp only [Act.put, List.getElem_toArray, List.getElem_cons_zero, List.getElem_cons_succ, List.setIfInBounds_toArray, List.set_cons_zero, List.set_cons_succ]
        refine wpAnyH_take (i := 9) (v := ?_) rfl (by kernel_rfl) (by kernel_rfl) (by kernel_rfl) (fun _ _ _ h => h) (Or.inl ⟨by rfl, ?_⟩) hHeld ?_
        rotate_left
        · (intro w hSw; go_simp; (try with_reducible rfl))
        simp only [Act.put, List.getElem_toArray, List.getElem_cons_zero, List.getElem_cons_succ, List.setIfInBounds_toArray, List.set_cons_zero, List.set_cons_succ]
        refine wpAnyH_take (i := 10) (v := ?_) rfl (by kernel_rfl) (by kernel_rfl) (by kernel_rfl) (fun _ _ _ h => h) (Or.inl ⟨by rfl, ?_⟩) hHeld ?_
        rotate_left
        · (intro w hSw; go_simp; (try with_reducible rfl))
        simp only [Act.put, List.getElem_toArray, List.getElem_cons_zero, List.getElem_cons_succ, List.setIfInBounds_toArray, List.set_cons_zero, List.set_cons_succ]
        refine wpAnyH_take (i := 11) (v := ?_) rfl (by kernel_rfl) (by kernel_rfl) (by kernel_rfl) (fun _ _ _ h => h) (Or.inl ⟨by rfl, ?_⟩) hHeld ?_
        rotate_left
        · (intro w hSw; go_simp; (try with_reducible rfl))
        simp only [Act.put, List.getElem_toArray, List.getElem_cons_zero, List.getElem_cons_succ, List.setIfInBounds_toArray, List.set_cons_zero, List.set_cons_succ]
        refine wpAnyH_take (i := 12) (v := ?_) rfl (by kernel_rfl) (by kernel_rfl) (by kernel_rfl) (fun _ _ _ h => h) (Or.inl ⟨by rfl, ?_⟩) hHeld ?_
        rotate_left
        · (intro w hSw; go_simp; (try with_reducible rfl))
        simp only [Act.put, List.getElem_toArray, List.getElem_cons_zero, List.getElem_cons_succ, List.setIfInBounds_toArray, List.set_cons_zero, List.set_cons_succ]
        clear kUb kSb kxb p1b
        have hcell : y5.drew.cell? ⟨gO, i * 18 + 3, none⟩ = some (.int .i64 xo) := hcell
        have hfr : y5.drew.frozen? ⟨gO, i * 18 + 3, none⟩ = false := hfr
        refine wpAnyH_ready (rs := [13]) (by kernel_rfl) (by simp) ?_
        refine AllReadyH.cons rfl (fun K hK => ?_) AllReadyH.nil
        simp only [List.getElem_toArray, List.getElem_cons_zero, List.getElem_cons_succ]
        go_simp
        refine hK.out _ _ (hHeld.set_ _ _) (fun _ => ?_)
        clear hK K
        try simp only [Act.put, List.setIfInBounds_toArray, List.set_cons_zero, List.set_cons_succ]
        refine wpAnyH_done (by kernel_rfl) ?_ _
        clear hHeld
        go_upto_region 19 with fail
        clear hcell hfr q0 g0 g1 g2
        obtain ⟨y6, hy6⟩ : ∃ y6, y6 = (y5.setCell ⟨gO, i * 18 + 3, none⟩ (.int .i64 x)).drew := ⟨_, rfl⟩
        have HU19 := Lib.hid (show UB g9 y4.heap.size cU ⟨setO u.objs i 3 x, u.lists, u.pl, u.gm⟩ ⟨some ⟨gO, 0, none⟩, nU, cU2⟩ LU y6 by rw [hy6]; exact HU18.out.keep (Below.refl _ _).drew)
        have HS19 := Lib.hid (show BW gs cs s ⟨some ⟨bS, off, none⟩, nS, cS⟩ L y6 by rw [hy6]; exact HS18.out.keep (Below.refl _ _).drew)
        have hbw : Below w.heap.size w y6 := by rw [hy6]; exact hbF.drew
        rw [← hy6]
        clear hy6 hbF
        have hst := states_any ⟨setO u.objs i 3 x, u.lists, u.pl, u.gm⟩ s _ _ LU L cU cs y6 HU19.out.reads HS19.out.reads (by rw [show (⟨setO u.objs i 3 x, u.lists, u.pl, u.gm⟩ : StT).objs = setO u.objs i 3 x from rfl, setO_len]; have := HUl.out; have := HNl.out.1; omega) (by have := HNl.out.1; omega) HUL.out (fun z hz => by have := HNl.out.2 z hz; omega)
        rw [HBk2.out] at hst
        have hua := HU19.out.a
        have hsa := HS19.out.a
        go_wp2_with (first
          | (refine load_wantS (by rfl) (.tmp 9) rfl g9 rfl cU hua hc37 ?_)
          | (refine load_wantS (by rfl) (.tmp 2) rfl gs rfl cs hsa hcs ?_))
        refine hst.mono ?_
        rintro en y7 ⟨rfl, hb⟩
        go_wp2_with fail
        go_ret
        exact ⟨rfl, keepB hb hbw⟩
      · have hq : (e.k == 1) = false := beq_eq_false_iff_ne.2 hk1
        have q0 := HW17.out.e.cells.1
        have hsm : sameS u s = true := by
          have h := HSame.out
          unfold backS at h
          rw [if_neg hk1] at h
          exact h
        have hst := states_any u s OU O LU L cU cs y5 HU.out.reads HS17.out.reads (by have := HUl.out; have := HNl.out.1; omega) (by have := HNl.out.1; omega) HUL.out (fun z hz => by have := HNl.out.2 z hz; omega)
        rw [hsm] at hst
        have hua := HU.out.a
        have hsa := HS17.out.a
        have hbw := HW17.out.b
        clear hk1 hsm
        go_wp2_with (first
          | (refine load_wantS (by rfl) (.tmp 9) rfl g9 rfl cU hua hc37 ?_)
          | (refine load_wantS (by rfl) (.tmp 2) rfl gs rfl cs hsa hcs ?_))
        refine hst.mono ?_
        rintro en y6 ⟨rfl, hb⟩
        go_wp2_with fail
        go_ret
        exact ⟨rfl, keepB hb hbw⟩
    · skip
      obtain ⟨W7, hW7⟩ : ∃ W7, W7 = World.alloc W8 (.cells st0 29) := ⟨_, rfl⟩
      obtain ⟨g9, hg9⟩ : ∃ g, g = (World.heap W8).size := ⟨_, rfl⟩
      have hb7 : Below (World.heap W8).size W8 W7 := by rw [hW7]; exact (Below.refl _ _).alloc (Nat.le_refl _) _
      have hBox : StAt W7 g9 st0 := by rw [hW7, hg9]; exact heap_alloc_new _ _
      have hg9w : y4.heap.size ≤ g9 := by rw [hg9]; exact hHeld.size
      rw [← hW7, ← hg9]
      clear hW7 hg9
      have hHeld := keepB hb7 hHeld
      refine hK.out _ _ hHeld (fun _ => ?_)
      clear hK K
      try simp only [Act.put, List.setIfInBounds_toArray, List.set_cons_zero, List.set_cons_succ]
      refine wpAnyH_ready (rs := [3]) (by kernel_rfl) (by simp) ?_
      refine AllReadyH.cons rfl (fun K hK => ?_) AllReadyH.nil
      simp only [List.getElem_toArray, List.getElem_cons_zero, List.getElem_cons_succ]
      go_simp
      have hbase := hHeld.size
      refine (HApp.out _ hHeld).mono ?_
      rintro en W9 ⟨cU, OU, LU, rfl, hRU, hOU, hb9⟩
      go_wp2_with fail
      have hOU := hOU.low hbase
      have hc37 : cU.size = 37 := hRU.size
      have HCU := Lib.hid (show cU = stC OU LU u.pl u.gm from hRU.cs)
      have HIU := Lib.hid hRU.i64
      have hcone := hRU.one
      clear hRU hbase
      have hHeld := keepB hb9 hHeld
      refine hK.out _ _ hHeld (fun _ => ?_)
      clear hK K
      try simp only [Act.put, List.setIfInBounds_toArray, List.set_cons_zero, List.set_cons_succ]
      have hBox := hBox.keep hb9
      refine wpAnyH_take (i := 4) (v := ?_) rfl (by kernel_rfl) (by kernel_rfl) (by kernel_rfl) (fun _ _ _ h => h) (Or.inl ⟨by rfl, ?_⟩) hHeld ?_
      rotate_left
      · (intro w hSw; go_simp; (try with_reducible rfl))
      simp only [Act.put, List.getElem_toArray, List.getElem_cons_zero, List.getElem_cons_succ, List.setIfInBounds_toArray, List.set_cons_zero, List.set_cons_succ]
      refine wpAnyH_take (i := 5) (v := ?_) rfl (by kernel_rfl) (by kernel_rfl) (by kernel_rfl) (fun _ _ _ h => h) (Or.inl ⟨by rfl, ?_⟩) hHeld ?_
      rotate_left
      · (intro w hSw; go_simp; (try with_reducible rfl))
      simp only [Act.put, List.getElem_toArray, List.getElem_cons_zero, List.getElem_cons_succ, List.setIfInBounds_toArray, List.set_cons_zero, List.set_cons_succ]
      refine wpAnyH_take (i := 6) (v := ?_) rfl (by kernel_rfl) (by kernel_rfl) (by kernel_rfl) (fun _ _ _ h => h) (Or.inl ⟨by rfl, ?_⟩) hHeld ?_
      rotate_left
      · (intro w hSw; go_simp; (try with_reducible rfl))
      simp only [Act.put, List.getElem_toArray, List.getElem_cons_zero, List.getElem_cons_succ, List.setIfInBounds_toArray, List.set_cons_zero, List.set_cons_succ]
      refine wpAnyH_ready (rs := [8]) (by kernel_rfl) (by simp) ?_
      refine AllReadyH.cons rfl (fun K hK => ?_) AllReadyH.nil
      simp only [List.getElem_toArray, List.getElem_cons_zero, List.getElem_cons_succ]
      refine wp_store_row 29 (.tmp 9) (.tmp 57) rfl g9 _ rfl rfl 29 _ hBox (by rw [hc37]; exact size37) (by rw [hc37]; exact stC_size _ _ _ _) hcone ?_
      have HU := Lib.hid (show UB g9 y4.heap.size cU u OU LU (W9.setRow g9 cU) from ⟨setRow_heap _ _ _ _ _ _ hBox, HCU.out, hOU.row hBox cU, HIU.out⟩)
      have hHeld := below_setRow hHeld g9 cU hg9w
      refine hK.out _ _ hHeld (fun _ => ?_)
      clear hK K hBox hOU hcone
      try simp only [Act.put, List.setIfInBounds_toArray, List.set_cons_zero, List.set_cons_succ]
      refine wpAnyH_take (i := 9) (v := ?_) rfl (by kernel_rfl) (by kernel_rfl) (by kernel_rfl) (fun _ _ _ h => h) (Or.inl ⟨by rfl, ?_⟩) hHeld ?_
      rotate_left
      · (intro w hSw; go_simp; (try with_reducible rfl))
      simp only [Act.put, List.getElem_toArray, List.getElem_cons_zero, List.getElem_cons_succ, List.setIfInBounds_toArray, List.set_cons_zero, List.set_cons_succ]
      refine wpAnyH_done (by kernel_rfl) ?_ _
      generalize W9.setRow g9 cU = y5 at HU hHeld ⊢
      have HW17 := Lib.hid (HW14.out.keep hHeld)
      have HS17 := Lib.hid (HS14.out.keep hHeld)
      have hy4 := hHeld.size
      clear hHeld HInv HApp
      by_cases hk1 : e.k = 1
      · obtain ⟨ha0, hai⟩ := HK1.out hk1
        obtain ⟨i, hia⟩ : ∃ i : Nat, e.a = (i : Int) := ⟨e.a.toNat, by omega⟩
        have hi : i < s.objs.length := by omega
        have HBk := Lib.hid (show sameS ⟨setO u.objs i 3 ((s.objs.getD i fun _ => 0) 3), u.lists, u.pl, u.gm⟩ s = true from by
          have h := HSame.out
          unfold backS at h
          rw [if_pos hk1, hia, Int.toNat_natCast] at h
          exact h)
        have hiu : i < u.objs.length := by have := HUl.out; omega
        have hon := HU.out.o.on
        obtain ⟨AU, nU, cU2⟩ := OU
        simp only at hon
        have hforms := own_form HU.out.o.o (show 0 < nU by omega)
        obtain ⟨gO, hAU, _⟩ := hforms
        simp only at hAU
        subst hAU
        have how : y5.ownsRow y4.heap.size 61 18 (.slice (some ⟨gO, 0, none⟩) nU cU2) nU (flatO u.objs) := HU.out.o.o
        obtain ⟨gO', e', hcell, hfr, hbO, _⟩ := owns_set how hiu (show 3 < 18 by omega)
        obtain rfl : gO = gO' := by injection e' with e'; injection e'
        obtain ⟨xo, hxo⟩ : ∃ xo, xo = u.objs[i] 3 := ⟨_, rfl⟩
        rw [← hxo] at hcell
        clear hxo
        have p1 := HW17.out.e.cells.2.1
        have q0 := HW17.out.e.cells.1
        rw [hk1] at q0
        rw [hia] at p1
        have kU : y5.cell? ⟨g9, 0, none⟩ = some (.slice (some ⟨gO, 0, none⟩) nU cU2) := (HU.out.a.cell 0).trans (by rw [HU.out.c]; exact stC_objs _ _ _ _)
        have hsr := HS17.out.r
        have hson := hsr.on
        obtain ⟨bS, off, hOA, hbS, kx⟩ := obj_cell2 hsr.o hi (show 3 < 18 by omega)
        obtain ⟨AS, nS, cS⟩ := O
        simp only at hOA hson
        subst hOA
        have kS : y5.cell? ⟨gs, 0, none⟩ = some (.slice (some ⟨bS, off, none⟩) nS cS) := (HS17.out.a.cell 0).trans (by rw [hsr.cs]; exact stC_objs _ _ _ _)
        obtain ⟨x, hx⟩ : ∃ x, x = (s.objs.getD i fun _ => 0) 3 := ⟨_, rfl⟩
        rw [← hx] at kx
        have HBk2 := Lib.hid (show sameS ⟨setO u.objs i 3 x, u.lists, u.pl, u.gm⟩ s = true by rw [hx]; exact HBk.out)
        have hx64 : N64 x := by rw [hx, getD_in _ hi]; exact hsr.ow _ (List.getElem_mem hi) 3 (by omega)
        have g0 : (0 : Int) ≤ (i : Int) := by omega
        have g1 : (i : Int) < (nU : Int) := by omega
        have g2 : (i : Int) < (nS : Int) := by omega
        have hgs4 : gs < y4.heap.size := HS14.out.a.lt
        have HU18 := Lib.hid (HU.out.set_ (i := i) (j := 3) hiu (by omega) hx64)
        have HS18 := Lib.hid (HS17.out.stay ((Stay.refl gO y5).set_ (i * 18 + 3) (.int .i64 x)) (by omega))
        have hgU : g9 ≠ gO := by
          rintro rfl
          obtain ⟨_, cur2, hc2⟩ := own_ty HU.out.o.o (j := g9) rfl
          exact absurd (ty_same HU.out.a hc2) (by decide)
        have hge4 : ge < y4.heap.size := HW14.out.e.lt
        have kUb : ∀ W, Stay gO y5 W → W.cell? ⟨g9, 0, none⟩ = some (.slice (some ⟨gO, 0, none⟩) nU cU2) := fun W hW => (World.cell?_of_block (hW.block g9 HU.out.a.lt hgU)).trans kU
        have kSb : ∀ W, Stay gO y5 W → W.cell? ⟨gs, 0, none⟩ = some (.slice (some ⟨bS, off, none⟩) nS cS) := fun W hW => (World.cell?_of_block (hW.block gs (by omega) (by omega))).trans kS
        have kxb : ∀ W, Stay gO y5 W → W.cell? ⟨bS, off + i * 18 + 3, none⟩ = some (.int .i64 x) := fun W hW => (World.cell?_of_block (hW.block bS (by omega) (by omega))).trans kx
        have p1b : ∀ W, Stay gO y5 W → W.cell? ⟨ge, 1, none⟩ = some (.int .i64 (i : Int)) := fun W hW => (World.cell?_of_block (hW.block ge (by omega) (by omega))).trans p1
        have hbF := HW17.out.b.setCell (p := ⟨gO, i * 18 + 3, none⟩) (show w.heap.size ≤ gO from by have := HW14.out.b.size; omega) (.int .i64 x)
        clear hk1 hai ha0 hia hi hiu hon how e' hbO hsr hson hbS hx hx64 hgs4 hge4 hgU hy4 HBk HK1 HSame kU kS kx p1
        go_upto_region 18 with fail
        refine region_stay4 gO (by kernel_rfl) (fun hHeld => ?_)
        refine wpAnyH_take (i := 0) (v := ?_) rfl (by kernel_rfl) (by kernel_rfl) (by kernel_rfl) (fun _ _ _ h => h) (Or.inl ⟨by rfl, ?_⟩) hHeld ?_
        rotate_left
        · (intro w hSw; go_simp; (try with_reducible rfl))
        simp only [Act.put, List.getElem_toArray, List.getElem_cons_zero, List.getElem_cons_succ, List.setIfInBounds_toArray, List.set_cons_zero, List.set_cons_succ]
        refine wpAnyH_take (i := 1) (v := ?_) rfl (by kernel_rfl) (by kernel_rfl) (by kernel_rfl) (fun _ _ _ h => h) (Or.inl ⟨by rfl, ?_⟩) hHeld ?_
        rotate_left
        · (intro w hSw; go_simp; (try with_reducible rfl))
        simp only [Act.put, List.getElem_toArray, List.getElem_cons_zero, List.getElem_cons_succ, List.setIfInBounds_toArray, List.set_cons_zero, List.set_cons_succ]
        refine wpAnyH_take (i := 2) (v := ?_) rfl (by kernel_rfl) (by kernel_rfl) (by kernel_rfl) (fun _ _ _ h => h) (Or.inl ⟨by rfl, ?_⟩) hHeld ?_
        rotate_left
        · (intro w hSw; go_simp; (try with_reducible rfl))
        simp only [Act.put, List.getElem_toArray, List.getElem_cons_zero, List.getElem_cons_succ, List.setIfInBounds_toArray, List.set_cons_zero, List.set_cons_succ]
        refine wpAnyH_take (i := 3) (v := ?_) rfl (by kernel_rfl) (by kernel_rfl) (by kernel_rfl) (fun _ _ _ h => h) (Or.inl ⟨by rfl, ?_⟩) hHeld ?_
        rotate_left
        · (intro w hSw; go_simp; (try with_reducible rfl))
        simp only [Act.put, List.getElem_toArray, List.getElem_cons_zero, List.getElem_cons_succ, List.setIfInBounds_toArray, List.set_cons_zero, List.set_cons_succ]
        refine wpAnyH_take (i := 4) (v := ?_) rfl (by kernel_rfl) (by kernel_rfl) (by kernel_rfl) (fun _ _ _ h => h) (Or.inl ⟨by rfl, ?_⟩) hHeld ?_
        rotate_left
        · (intro w hSw; go_simp; (try with_reducible rfl))
        simp only [Act.put, List.getElem_toArray, List.getElem_cons_zero, List.getElem_cons_succ, List.setIfInBounds_toArray, List.set_cons_zero, List.set_cons_succ]
        refine wpAnyH_take (i := 5) (v := ?_) rfl (by kernel_rfl) (by kernel_rfl) (by kernel_rfl) (fun _ _ _ h => h) (Or.inl ⟨by rfl, ?_⟩) hHeld ?_
        rotate_left
        · (intro w hSw; go_simp; (try with_reducible rfl))
        simp only [Act.put, List.getElem_toArray, List.getElem_cons_zero, List.getElem_cons_succ, List.setIfInBounds_toArray, List.set_cons_zero, List.set_cons_succ]
        refine wpAnyH_take (i := 6) (v := ?_) rfl (by kernel_rfl) (by kernel_rfl) (by kernel_rfl) (fun _ _ _ h => h) (Or.inl ⟨by rfl, ?_⟩) hHeld ?_
        rotate_left
        · (intro w hSw; go_simp; (try with_reducible rfl))
        simp only [Act.put, List.getElem_toArray, List.getElem_cons_zero, List.getElem_cons_succ, List.setIfInBounds_toArray, List.set_cons_zero, List.set_cons_succ]
        refine wpAnyH_take (i := 7) (v := ?_) rfl (by kernel_rfl) (by kernel_rfl) (by kernel_rfl) (fun _ _ _ h => h) (Or.inl ⟨by rfl, ?_⟩) hHeld ?_
        rotate_left
        · (intro w hSw; go_simp; (try with_reducible rfl))
        simp only [Act.put, List.getElem_toArray, List.getElem_cons_zero, List.getElem_cons_succ, List.setIfInBounds_toArray, List.set_cons_zero, List.set_cons_succ]
        refine wpAnyH_take (i := 8) (v := ?_) rfl (by kernel_rfl) (by kernel_rfl) (by kernel_rfl) (fun _ _ _ h => h) (Or.inl ⟨by rfl, ?_⟩) hHeld ?_
        rotate_left
        · (intro w hSw; go_simp; (try with_reducible rfl))
        simp only [Act.put, List.getElem_toArray, List.getElem_cons_zero, List.getElem_cons_succ, List.setIfInBounds_toArray, List.set_cons_zero, List.set_cons_succ]
        refine wpAnyH_take (i := 9) (v := ?_) rfl (by kernel_rfl) (by kernel_rfl) (by kernel_rfl) (fun _ _ _ h => h) (Or.inl ⟨by rfl, ?_⟩) hHeld ?_
        rotate_left
        · (intro w hSw; go_simp; (try with_reducible rfl))
        simp only [Act.put, List.getElem_toArray, List.getElem_cons_zero, List.getElem_cons_succ, List.setIfInBounds_toArray, List.set_cons_zero, List.set_cons_succ]
        refine wpAnyH_take (i := 10) (v := ?_) rfl (by kernel_rfl) (by kernel_rfl) (by kernel_rfl) (fun _ _ _ h => h) (Or.inl ⟨by rfl, ?_⟩) hHeld ?_
        rotate_left
        · (intro w hSw; go_simp; (try with_reducible rfl))
        simp only [Act.put, List.getElem_toArray, List.getElem_cons_zero, List.getElem_cons_succ, List.setIfInBounds_toArray, List.set_cons_zero, List.set_cons_succ]
        refine wpAnyH_take (i := 11) (v := ?_) rfl (by kernel_rfl) (by kernel_rfl) (by kernel_rfl) (fun _ _ _ h => h) (Or.inl ⟨by rfl, ?_⟩) hHeld ?_
        rotate_left
        · (intro w hSw; go_simp; (try with_reducible rfl))
        simp only [Act.put, List.getElem_toArray, List.getElem_cons_zero, List.getElem_cons_succ, List.setIfInBounds_toArray, List.set_cons_zero, List.set_cons_succ]
        refine wpAnyH_take (i := 12) (v := ?_) rfl (by kernel_rfl) (by kernel_rfl) (by kernel_rfl) (fun _ _ _ h => h) (Or.inl ⟨by rfl, ?_⟩) hHeld ?_
        rotate_left
        · (intro w hSw; go_simp; (try with_reducible rfl))
        simp only [Act.put, List.getElem_toArray, List.getElem_cons_zero, List.getElem_cons_succ, List.setIfInBounds_toArray, List.set_cons_zero, List.set_cons_succ]
        clear kUb kSb kxb p1b
        have hcell : y5.drew.cell? ⟨gO, i * 18 + 3, none⟩ = some (.int .i64 xo) := hcell
        have hfr : y5.drew.frozen? ⟨gO, i * 18 + 3, none⟩ = false := hfr
        refine wpAnyH_ready (rs := [13]) (by kernel_rfl) (by simp) ?_
        refine AllReadyH.cons rfl (fun K hK => ?_) AllReadyH.nil
        simp only [List.getElem_toArray, List.getElem_cons_zero, List.getElem_cons_succ]
        go_simp
        refine hK.out _ _ (hHeld.set_ _ _) (fun _ => ?_)
        clear hK K
        try simp only [Act.put, List.setIfInBounds_toArray, List.set_cons_zero, List.set_cons_succ]
        refine wpAnyH_done (by kernel_rfl) ?_ _
        clear hHeld
        go_upto_region 19 with fail
        clear hcell hfr q0 g0 g1 g2
        obtain ⟨y6, hy6⟩ : ∃ y6, y6 = (y5.setCell ⟨gO, i * 18 + 3, none⟩ (.int .i64 x)).drew := ⟨_, rfl⟩
        have HU19 := Lib.hid (show UB g9 y4.heap.size cU ⟨setO u.objs i 3 x, u.lists, u.pl, u.gm⟩ ⟨some ⟨gO, 0, none⟩, nU, cU2⟩ LU y6 by rw [hy6]; exact HU18.out.keep (Below.refl _ _).drew)
        have HS19 := Lib.hid (show BW gs cs s ⟨some ⟨bS, off, none⟩, nS, cS⟩ L y6 by rw [hy6]; exact HS18.out.keep (Below.refl _ _).drew)
        have hbw : Below w.heap.size w y6 := by rw [hy6]; exact hbF.drew
        rw [← hy6]
        clear hy6 hbF
        have hst := states_any ⟨setO u.objs i 3 x, u.lists, u.pl, u.gm⟩ s _ _ LU L cU cs y6 HU19.out.reads HS19.out.reads (by rw [show (⟨setO u.objs i 3 x, u.lists, u.pl, u.gm⟩ : StT).objs = setO u.objs i 3 x from rfl, setO_len]; have := HUl.out; have := HNl.out.1; omega) (by have := HNl.out.1; omega) HUL.out (fun z hz => by have := HNl.out.2 z hz; omega)
        rw [HBk2.out] at hst
        have hua := HU19.out.a
        have hsa := HS19.out.a
        go_wp2_with (first
          | (refine load_wantS (by rfl) (.tmp 9) rfl g9 rfl cU hua hc37 ?_)
          | (refine load_wantS (by rfl) (.tmp 2) rfl gs rfl cs hsa hcs ?_))
        refine hst.mono ?_
        rintro en y7 ⟨rfl, hb⟩
        go_wp2_with fail
        go_ret
        exact ⟨rfl, keepB hb hbw⟩
      · have hq : (e.k == 1) = false := beq_eq_false_iff_ne.2 hk1
        have q0 := HW17.out.e.cells.1
        have hsm : sameS u s = true := by
          have h := HSame.out
          unfold backS at h
          rw [if_neg hk1] at h
          exact h
        have hst := states_any u s OU O LU L cU cs y5 HU.out.reads HS17.out.reads (by have := HUl.out; have := HNl.out.1; omega) (by have := HNl.out.1; omega) HUL.out (fun z hz => by have := HNl.out.2 z hz; omega)
        rw [hsm] at hst
        have hua := HU.out.a
        have hsa := HS17.out.a
        have hbw := HW17.out.b
        clear hk1 hsm
        go_wp2_with (first
          | (refine load_wantS (by rfl) (.tmp 9) rfl g9 rfl cU hua hc37 ?_)
          | (refine load_wantS (by rfl) (.tmp 2) rfl gs rfl cs hsa hcs ?_))
        refine hst.mono ?_
        rintro en y6 ⟨rfl, hb⟩
        go_wp2_with fail
        go_ret
        exact ⟨rfl, keepB hb hbw⟩
  · skip
    obtain ⟨W7, hW7⟩ : ∃ W7, W7 = World.alloc W0 (.cells st0 29) := ⟨_, rfl⟩
    obtain ⟨g9, hg9⟩ : ∃ g, g = (World.heap W0).size := ⟨_, rfl⟩
    have hb7 : Below (World.heap W0).size W0 W7 := by rw [hW7]; exact (Below.refl _ _).alloc (Nat.le_refl _) _
    have hBox : StAt W7 g9 st0 := by rw [hW7, hg9]; exact heap_alloc_new _ _
    have hg9w : y4.heap.size ≤ g9 := by rw [hg9]; exact hHeld.size
    rw [← hW7, ← hg9]
    clear hW7 hg9
    have hHeld := keepB hb7 hHeld
    refine hK.out _ _ hHeld (fun _ => ?_)
    clear hK K
    try simp only [Act.put, List.setIfInBounds_toArray, List.set_cons_zero, List.set_cons_succ]
    refine wpAnyH_ready (rs := [2]) (by kernel_rfl) (by simp) ?_
    refine AllReadyH.cons rfl (fun K hK => ?_) AllReadyH.nil
    simp only [List.getElem_toArray, List.getElem_cons_zero, List.getElem_cons_succ]
    go_simp
    refine (HInv.out _ hHeld).mono ?_
    rintro en W8 ⟨rfl, hb8⟩
    go_wp2_with fail
    have hHeld := keepB hb8 hHeld
    refine hK.out _ _ hHeld (fun _ => ?_)
    clear hK K
    try simp only [Act.put, List.setIfInBounds_toArray, List.set_cons_zero, List.set_cons_succ]
    have hBox := hBox.keep hb8
    refine wpAnyH_ready (rs := [3]) (by kernel_rfl) (by simp) ?_
    refine AllReadyH.cons rfl (fun K hK => ?_) AllReadyH.nil
    simp only [List.getElem_toArray, List.getElem_cons_zero, List.getElem_cons_succ]
    go_simp
    have hbase := hHeld.size
    refine (HApp.out _ hHeld).mono ?_
    rintro en W9 ⟨cU, OU, LU, rfl, hRU, hOU, hb9⟩
    go_wp2_with fail
    have hOU := hOU.low hbase
    have hc37 : cU.size = 37 := hRU.size
    have HCU := Lib.hid (show cU = stC OU LU u.pl u.gm from hRU.cs)
    have HIU := Lib.hid hRU.i64
    have hcone := hRU.one
    clear hRU hbase
    have hHeld := keepB hb9 hHeld
    refine hK.out _ _ hHeld (fun _ => ?_)
    clear hK K
    try simp only [Act.put, List.setIfInBounds_toArray, List.set_cons_zero, List.set_cons_succ]
    have hBox := hBox.keep hb9
    refine wpAnyH_take (i := 4) (v := ?_) rfl (by kernel_rfl) (by kernel_rfl) (by kernel_rfl) (fun _ _ _ h => h) (Or.inl ⟨by rfl, ?_⟩) hHeld ?_
    rotate_left
    · (intro w hSw; go_simp; (try with_reducible rfl))
    simp only [Act.put, List.getElem_toArray, List.getElem_cons_zero, List.getElem_cons_succ, List.setIfInBounds_toArray, List.set_cons_zero, List.set_cons_succ]
    refine wpAnyH_take (i := 5) (v := ?_) rfl (by kernel_rfl) (by kernel_rfl) (by kernel_rfl) (fun _ _ _ h => h) (Or.inl ⟨by rfl, ?_⟩) hHeld ?_
    rotate_left
    · (intro w hSw; go_simp; (try with_reducible rfl))
    simp only [Act.put, List.getElem_toArray, List.getElem_cons_zero, List.getElem_cons_succ, List.setIfInBounds_toArray, List.set_cons_zero, List.set_cons_succ]
    refine wpAnyH_take (i := 6) (v := ?_) rfl (by kernel_rfl) (by kernel_rfl) (by kernel_rfl) (fun _ _ _ h => h) (Or.inl ⟨by rfl, ?_⟩) hHeld ?_
    rotate_left
    · (intro w hSw; go_simp; (try with_reducible rfl))
    simp only [Act.put, List.getElem_toArray, List.getElem_cons_zero, List.getElem_cons_succ, List.setIfInBounds_toArray, List.set_cons_zero, List.set_cons_succ]
    refine wpAnyH_ready (rs := [8]) (by kernel_rfl) (by simp) ?_
    refine AllReadyH.cons rfl (fun K hK => ?_) AllReadyH.nil
    simp only [List.getElem_toArray, List.getElem_cons_zero, List.getElem_cons_succ]
    refine wp_store_row 29 (.tmp 9) (.tmp 57) rfl g9 _ rfl rfl 29 _ hBox (by rw [hc37]; exact size37) (by rw [hc37]; exact stC_size _ _ _ _) hcone ?_
    have HU := Lib.hid (show UB g9 y4.heap.size cU u OU LU (W9.setRow g9 cU) from ⟨setRow_heap _ _ _ _ _ _ hBox, HCU.out, hOU.row hBox cU, HIU.out⟩)
    have hHeld := below_setRow hHeld g9 cU hg9w
    refine hK.out _ _ hHeld (fun _ => ?_)
    clear hK K hBox hOU hcone
    try simp only [Act.put, List.setIfInBounds_toArray, List.set_cons_zero, List.set_cons_succ]
    refine wpAnyH_take (i := 9) (v := ?_) rfl (by kernel_rfl) (by kernel_rfl) (by kernel_rfl) (fun _ _ _ h => h) (Or.inl ⟨by rfl, ?_⟩) hHeld ?_
    rotate_left
    · (intro w hSw; go_simp; (try with_reducible rfl))
    simp only [Act.put, List.getElem_toArray, List.getElem_cons_zero, List.getElem_cons_succ, List.setIfInBounds_toArray, List.set_cons_zero, List.set_cons_succ]
    refine wpAnyH_done (by kernel_rfl) ?_ _
    generalize W9.setRow g9 cU = y5 at HU hHeld ⊢
    have HW17 := Lib.hid (HW14.out.keep hHeld)
    have HS17 := Lib.hid (HS14.out.keep hHeld)
    have hy4 := hHeld.size
    clear hHeld HInv HApp
    by_cases hk1 : e.k = 1
    · obtain ⟨ha0, hai⟩ := HK1.out hk1
      obtain ⟨i, hia⟩ : ∃ i : Nat, e.a = (i : Int) := ⟨e.a.toNat, by omega⟩
      have hi : i < s.objs.length := by omega
      have HBk := Lib.hid (show sameS ⟨setO u.objs i 3 ((s.objs.getD i fun _ => 0) 3), u.lists, u.pl, u.gm⟩ s = true from by
        have h := HSame.out
        unfold backS at h
        rw [if_pos hk1, hia, Int.toNat_natCast] at h
        exact h)
      have hiu : i < u.objs.length := by have := HUl.out; omega
      have hon := HU.out.o.on
      obtain ⟨AU, nU, cU2⟩ := OU
      simp only at hon
      have hforms := own_form HU.out.o.o (show 0 < nU by omega)
      obtain ⟨gO, hAU, _⟩ := hforms
      simp only at hAU
      subst hAU
      have how : y5.ownsRow y4.heap.size 61 18 (.slice (some ⟨gO, 0, none⟩) nU cU2) nU (flatO u.objs) := HU.out.o.o
      obtain ⟨gO', e', hcell, hfr, hbO, _⟩ := owns_set how hiu (show 3 < 18 by omega)
      obtain rfl : gO = gO' := by injection e' with e'; injection e'
      obtain ⟨xo, hxo⟩ : ∃ xo, xo = u.objs[i] 3 := ⟨_, rfl⟩
      rw [← hxo] at hcell
      clear hxo
      have p1 := HW17.out.e.cells.2.1
      have q0 := HW17.out.e.cells.1
      rw [hk1] at q0
      rw [hia] at p1
      have kU : y5.cell? ⟨g9, 0, none⟩ = some (.slice (some ⟨gO, 0, none⟩) nU cU2) := (HU.out.a.cell 0).trans (by rw [HU.out.c]; exact stC_objs _ _ _ _)
      have hsr := HS17.out.r
      have hson := hsr.on
      obtain ⟨bS, off, hOA, hbS, kx⟩ := obj_cell2 hsr.o hi (show 3 < 18 by omega)
      obtain ⟨AS, nS, cS⟩ := O
      simp only at hOA hson
      subst hOA
      have kS : y5.cell? ⟨gs, 0, none⟩ = some (.slice (some ⟨bS, off, none⟩) nS cS) := (HS17.out.a.cell 0).trans (by rw [hsr.cs]; exact stC_objs _ _ _ _)
      obtain ⟨x, hx⟩ : ∃ x, x = (s.objs.getD i fun _ => 0) 3 := ⟨_, rfl⟩
      rw [← hx] at kx
      have HBk2 := Lib.hid (show sameS ⟨setO u.objs i 3 x, u.lists, u.pl, u.gm⟩ s = true by rw [hx]; exact HBk.out)
      have hx64 : N64 x := by rw [hx, getD_in _ hi]; exact hsr.ow _ (List.getElem_mem hi) 3 (by omega)
      have g0 : (0 : Int) ≤ (i : Int) := by omega
      have g1 : (i : Int) < (nU : Int) := by omega
      have g2 : (i : Int) < (nS : Int) := by omega
      have hgs4 : gs < y4.heap.size := HS14.out.a.lt
      have HU18 := Lib.hid (HU.out.set_ (i := i) (j := 3) hiu (by omega) hx64)
      have HS18 := Lib.hid (HS17.out.stay ((Stay.refl gO y5).set_ (i * 18 + 3) (.int .i64 x)) (by omega))
      have hgU : g9 ≠ gO := by
        rintro rfl
        obtain ⟨_, cur2, hc2⟩ := own_ty HU.out.o.o (j := g9) rfl
        exact absurd (ty_same HU.out.a hc2) (by decide)
      have hge4 : ge < y4.heap.size := HW14.out.e.lt
      have kUb : ∀ W, Stay gO y5 W → W.cell? ⟨g9, 0, none⟩ = some (.slice (some ⟨gO, 0, none⟩) nU cU2) := fun W hW => (World.cell?_of_block (hW.block g9 HU.out.a.lt hgU)).trans kU
      have kSb : ∀ W, Stay gO y5 W → W.cell? ⟨gs, 0, none⟩ = some (.slice (some ⟨bS, off, none⟩) nS cS) := fun W hW => (World.cell?_of_block (hW.block gs (by omega) (by omega))).trans kS
      have kxb : ∀ W, Stay gO y5 W → W.cell? ⟨bS, off + i * 18 + 3, none⟩ = some (.int .i64 x) := fun W hW => (World.cell?_of_block (hW.block bS (by omega) (by omega))).trans kx
      have p1b : ∀ W, Stay gO y5 W → W.cell? ⟨ge, 1, none⟩ = some (.int .i64 (i : Int)) := fun W hW => (World.cell?_of_block (hW.block ge (by omega) (by omega))).trans p1
      have hbF := HW17.out.b.setCell (p := ⟨gO, i * 18 + 3, none⟩) (show w.heap.size ≤ gO from by have := HW14.out.b.size; omega) (.int .i64 x)
      clear hk1 hai ha0 hia hi hiu hon how e' hbO hsr hson hbS hx hx64 hgs4 hge4 hgU hy4 HBk HK1 HSame kU kS kx p1
      go_upto_region 18 with fail
      refine region_stay4 gO (by kernel_rfl) (fun hHeld => ?_)
      refine wpAnyH_take (i := 0) (v := ?_) rfl (by kernel_rfl) (by kernel_rfl) (by kernel_rfl) (fun _ _ _ h => h) (Or.inl ⟨by rfl, ?_⟩) hHeld ?_
      rotate_left
      · (intro w hSw; go_simp; (try with_reducible rfl))
      simp only [Act.put, List.getElem_toArray, List.getElem_cons_zero, List.getElem_cons_succ, List.setIfInBounds_toArray, List.set_cons_zero, List.set_cons_succ]
      refine wpAnyH_take (i := 1) (v := ?_) rfl (by kernel_rfl) (by kernel_rfl) (by kernel_rfl) (fun _ _ _ h => h) (Or.inl ⟨by rfl, ?_⟩) hHeld ?_
      rotate_left
      · (intro w hSw; go_simp; (try with_reducible rfl))
      simp only [Act.put, List.getElem_toArray, List.getElem_cons_zero, List.getElem_cons_succ, List.setIfInBounds_toArray, List.set_cons_zero, List.set_cons_succ]
      refine wpAnyH_take (i := 2) (v := ?_) rfl (by kernel_rfl) (by kernel_rfl) (by kernel_rfl) (fun _ _ _ h => h) (Or.inl ⟨by rfl, ?_⟩) hHeld ?_
      rotate_left
      · (intro w hSw; go_simp; (try with_reducible rfl))
      simp only [Act.put, List.getElem_toArray, List.getElem_cons_zero, List.getElem_cons_succ, List.setIfInBounds_toArray, List.set_cons_zero, List.set_cons_succ]
      refine wpAnyH_take (i := 3) (v := ?_) rfl (by kernel_rfl) (by kernel_rfl) (by kernel_rfl) (fun _ _ _ h => h) (Or.inl ⟨by rfl, ?_⟩) hHeld ?_
      rotate_left
      · (intro w hSw; go_simp; (try with_reducible rfl))
      simp only [Act.put, List.getElem_toArray, List.getElem_cons_zero, List.getElem_cons_succ, List.setIfInBounds_toArray, List.set_cons_zero, List.set_cons_succ]
      refine wpAnyH_take (i := 4) (v := ?_) rfl (by kernel_rfl) (by kernel_rfl) (by kernel_rfl) (fun _ _ _ h => h) (Or.inl ⟨by rfl, ?_⟩) hHeld ?_
      rotate_left
      · (intro w hSw; go_simp; (try with_reducible rfl))
      simp only [Act.put, List.getElem_toArray, List.getElem_cons_zero, List.getElem_cons_succ, List.setIfInBounds_toArray, List.set_cons_zero, List.set_cons_succ]
      refine wpAnyH_take (i := 5) (v := ?_) rfl (by kernel_rfl) (by kernel_rfl) (by kernel_rfl) (fun _ _ _ h => h) (Or.inl ⟨by rfl, ?_⟩) hHeld ?_
      rotate_left
      · (intro w hSw; go_simp; (try with_reducible rfl))
      simp only [Act.put, List.getElem_toArray, List.getElem_cons_zero, List.getElem_cons_succ, List.setIfInBounds_toArray, List.set_cons_zero, List.set_cons_succ]
      refine wpAnyH_take (i := 6) (v := ?_) rfl (by kernel_rfl) (by kernel_rfl) (by kernel_rfl) (fun _ _ _ h => h) (Or.inl ⟨by rfl, ?_⟩) hHeld ?_
      rotate_left
      · (intro w hSw; go_simp; (try with_reducible rfl))
      simp only [Act.put, List.getElem_toArray, List.getElem_cons_zero, List.getElem_cons_succ, List.setIfInBounds_toArray, List.set_cons_zero, List.set_cons_succ]
      refine wpAnyH_take (i := 7) (v := ?_) rfl (by kernel_rfl) (by kernel_rfl) (by kernel_rfl) (fun _ _ _ h => h) (Or.inl ⟨by rfl, ?_⟩) hHeld ?_
      rotate_left
      · (intro w hSw; go_simp; (try with_reducible rfl))
      simp only [Act.put, List.getElem_toArray, List.getElem_cons_zero, List.getElem_cons_succ, List.setIfInBounds_toArray, List.set_cons_zero, List.set_cons_succ]
      refine wpAnyH_take (i := 8) (v := ?_) rfl (by kernel_rfl) (by kernel_rfl) (by kernel_rfl) (fun _ _ _ h => h) (Or.inl ⟨by rfl, ?_⟩) hHeld ?_
      rotate_left
      · (intro w hSw; go_simp; (try with_reducible rfl))
      simp only [Act.put, List.getElem_toArray, List.getElem_cons_zero, List.getElem_cons_succ, List.setIfInBounds_toArray, List.set_cons_zero, List.set_cons_succ]
      refine wpAnyH_take (i := 9) (v := ?_) rfl (by kernel_rfl) (by kernel_rfl) (by kernel_rfl) (fun _ _ _ h => h) (Or.inl ⟨by rfl, ?_⟩) hHeld ?_
      rotate_left
      · (intro w hSw; go_simp; (try with_reducible rfl))
      simp only [Act.put, List.getElem_toArray, List.getElem_cons_zero, List.getElem_cons_succ, List.setIfInBounds_toArray, List.set_cons_zero, List.set_cons_succ]
      refine wpAnyH_take (i := 10) (v := ?_) rfl (by kernel_rfl) (by kernel_rfl) (by kernel_rfl) (fun _ _ _ h => h) (Or.inl ⟨by rfl, ?_⟩) hHeld ?_
      rotate_left
      · (intro w hSw; go_simp; (try with_reducible rfl))
      simp only [Act.put, List.getElem_toArray, List.getElem_cons_zero, List.getElem_cons_succ, List.setIfInBounds_toArray, List.set_cons_zero, List.set_cons_succ]
      refine wpAnyH_take (i := 11) (v := ?_) rfl (by kernel_rfl) (by kernel_rfl) (by kernel_rfl) (fun _ _ _ h => h) (Or.inl ⟨by rfl, ?_⟩) hHeld ?_
      rotate_left
      · (intro w hSw; go_simp; (try with_reducible rfl))
      simp only [Act.put, List.getElem_toArray, List.getElem_cons_zero, List.getElem_cons_succ, List.setIfInBounds_toArray, List.set_cons_zero, List.set_cons_succ]
      refine wpAnyH_take (i := 12) (v := ?_) rfl (by kernel_rfl) (by kernel_rfl) (by kernel_rfl) (fun _ _ _ h => h) (Or.inl ⟨by rfl, ?_⟩) hHeld ?_
      rotate_left
      · (intro w hSw; go_simp; (try with_reducible rfl))
      simp only [Act.put, List.getElem_toArray, List.getElem_cons_zero, List.getElem_cons_succ, List.setIfInBounds_toArray, List.set_cons_zero, List.set_cons_succ]
      clear kUb kSb kxb p1b
      have hcell : y5.drew.cell? ⟨gO, i * 18 + 3, none⟩ = some (.int .i64 xo) := hcell
      have hfr : y5.drew.frozen? ⟨gO, i * 18 + 3, none⟩ = false := hfr
      refine wpAnyH_ready (rs := [13]) (by kernel_rfl) (by simp) ?_
      refine AllReadyH.cons rfl (fun K hK => ?_) AllReadyH.nil
      simp only [List.getElem_toArray, List.getElem_cons_zero, List.getElem_cons_succ]
      go_simp
      refine hK.out _ _ (hHeld.set_ _ _) (fun _ => ?_)
      clear hK K
      try simp only [Act.put, List.setIfInBounds_toArray, List.set_cons_zero, List.set_cons_succ]
      refine wpAnyH_done (by kernel_rfl) ?_ _
      clear hHeld
      go_upto_region 19 with fail
      clear hcell hfr q0 g0 g1 g2
      obtain ⟨y6, hy6⟩ : ∃ y6, y6 = (y5.setCell ⟨gO, i * 18 + 3, none⟩ (.int .i64 x)).drew := ⟨_, rfl⟩
      have HU19 := Lib.hid (show UB g9 y4.heap.size cU ⟨setO u.objs i 3 x, u.lists, u.pl, u.gm⟩ ⟨some ⟨gO, 0, none⟩, nU, cU2⟩ LU y6 by rw [hy6]; exact HU18.out.keep (Below.refl _ _).drew)
      have HS19 := Lib.hid (show BW gs cs s ⟨some ⟨bS, off, none⟩, nS, cS⟩ L y6 by rw [hy6]; exact HS18.out.keep (Below.refl _ _).drew)
      have hbw : Below w.heap.size w y6 := by rw [hy6]; exact hbF.drew
      rw [← hy6]
      clear hy6 hbF
      have hst := states_any ⟨setO u.objs i 3 x, u.lists, u.pl, u.gm⟩ s _ _ LU L cU cs y6 HU19.out.reads HS19.out.reads (by rw [show (⟨setO u.objs i 3 x, u.lists, u.pl, u.gm⟩ : StT).objs = setO u.objs i 3 x from rfl, setO_len]; have := HUl.out; have := HNl.out.1; omega) (by have := HNl.out.1; omega) HUL.out (fun z hz => by have := HNl.out.2 z hz; omega)
      rw [HBk2.out] at hst
      have hua := HU19.out.a
      have hsa := HS19.out.a
      go_wp2_with (first
        | (refine load_wantS (by rfl) (.tmp 9) rfl g9 rfl cU hua hc37 ?_)
        | (refine load_wantS (by rfl) (.tmp 2) rfl gs rfl cs hsa hcs ?_))
      refine hst.mono ?_
      rintro en y7 ⟨rfl, hb⟩
      go_wp2_with fail
      go_ret
      exact ⟨rfl, keepB hb hbw⟩
    · have hq : (e.k == 1) = false := beq_eq_false_iff_ne.2 hk1
      have q0 := HW17.out.e.cells.1
      have hsm : sameS u s = true := by
        have h := HSame.out
        unfold backS at h
        rw [if_neg hk1] at h
        exact h
      have hst := states_any u s OU O LU L cU cs y5 HU.out.reads HS17.out.reads (by have := HUl.out; have := HNl.out.1; omega) (by have := HNl.out.1; omega) HUL.out (fun z hz => by have := HNl.out.2 z hz; omega)
      rw [hsm] at hst
      have hua := HU.out.a
      have hsa := HS17.out.a
      have hbw := HW17.out.b
      clear hk1 hsm
      go_wp2_with (first
        | (refine load_wantS (by rfl) (.tmp 9) rfl g9 rfl cU hua hc37 ?_)
        | (refine load_wantS (by rfl) (.tmp 2) rfl gs rfl cs hsa hcs ?_))
      refine hst.mono ?_
      rintro en y6 ⟨rfl, hb⟩
      go_wp2_with fail
      go_ret
      exact ⟨rfl, keepB hb hbw⟩
end Go.Proofs.Ythedopnhhanknaa
