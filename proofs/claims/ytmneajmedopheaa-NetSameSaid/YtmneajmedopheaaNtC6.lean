/- Layer 13: the code's Net. -/
import Derived.Test.YtmneajmedopheaaNtC5
import Derived.Test.YtmneajmedopheaaNtEvP
namespace Go.Proofs.Ytmneajmedopheaa
open Go.RowKit Ex Go.Maps
set_option maxRecDepth 100000
theorem foldN_seg (a : List EvT) {l : List EvT} (h : ∀ e ∈ l, isCut e = false) : foldN ⟨a, [], []⟩ l = ⟨a, (spN l).m, (spN l).f⟩ := by
  induction l using snoc_ind with
  | h0 => rfl
  | h1 l e ih =>
    have ih := ih fun x hx => h x (List.mem_append_left _ hx)
    have hc := h e (by simp)
    rw [foldN_snoc, ih, spN_snoc]
    unfold stepN
    simp only [hc]
    by_cases hs : isSet e = true
    · simp [hs]
    · simp [hs]
theorem ins_i {f : List EvT} {e : EvT} (hf : ∀ x ∈ f, EvI x) (he : EvI e) : ∀ x ∈ insE f e, EvI x := by
  induction f with
  | nil => intro x hx; obtain rfl : x = e := by simpa [insE] using hx
           exact he
  | cons y r ih =>
    have hy := hf y (List.mem_cons_self ..)
    have ih := ih fun x hx => hf x (List.mem_cons_of_mem _ hx)
    intro x hx
    simp only [insE] at hx
    split at hx
    · rcases List.mem_cons.1 hx with rfl | h
      · exact ⟨hy.k, hy.a, hy.b, hy.c, he.d, hy.e⟩
      · exact hf x (List.mem_cons_of_mem _ h)
    · rcases List.mem_cons.1 hx with rfl | h
      · exact hy
      · exact ih x h
theorem fold_i {l : List EvT} (h : ∀ e ∈ l, EvI e) : (∀ e ∈ (foldN nt0 l).o, EvI e) ∧ (∀ e ∈ (foldN nt0 l).m, EvI e) ∧ ∀ e ∈ (foldN nt0 l).f, EvI e := by
  induction l using snoc_ind with
  | h0 => exact ⟨fun e he => (by cases he), fun e he => (by cases he), fun e he => (by cases he)⟩
  | h1 l e ih =>
    obtain ⟨h1, h2, h3⟩ := ih fun x hx => h x (List.mem_append_left _ hx)
    have he := h e (by simp)
    rw [foldN_snoc]
    generalize foldN nt0 l = p at h1 h2 h3
    obtain ⟨o, m, f⟩ := p
    unfold stepN
    split
    · refine ⟨fun x hx => ?_, fun x hx => (by cases hx), fun x hx => (by cases hx)⟩
      simp only [List.mem_append, List.mem_singleton] at hx
      rcases hx with ((hx | hx) | hx) | rfl
      · exact h1 x hx
      · exact h2 x hx
      · exact h3 x (fin_mem hx)
      · exact he
    · split
      · exact ⟨h1, h2, ins_i h3 he⟩
      · refine ⟨h1, fun x hx => ?_, h3⟩
        rcases List.mem_append.1 hx with hx | hx
        · exact h2 x hx
        · obtain rfl : x = e := by simpa using hx
          exact he
theorem net_i {l : List EvT} (h : ∀ e ∈ l, EvI e) : ∀ e ∈ netL l, EvI e := by
  obtain ⟨h1, h2, h3⟩ := fold_i h
  intro x hx
  unfold netL outN at hx
  rcases List.mem_append.1 hx with hx | hx
  · rcases List.mem_append.1 hx with hx | hx
    · exact h1 x hx
    · exact h2 x hx
  · exact h3 x (fin_mem hx)
/-- The events between the last cut and the place at hand. -/
def segN (l : List EvT) (s k : Nat) : List EvT := (l.drop s).take (k - s)
theorem take_seg {l : List EvT} {s k : Nat} (h : s ≤ k) : l.take k = l.take s ++ segN l s k := by
  unfold segN
  rw [← List.drop_take]
  have := (List.take_append_drop s (l.take k)).symm
  rwa [List.take_take, Nat.min_eq_left h] at this
theorem seg_snoc {l : List EvT} {s k : Nat} {x : EvT} (h : s ≤ k) (hx : l[k]? = some x) : segN l s (k + 1) = segN l s k ++ [x] := by
  unfold segN
  rw [show k + 1 - s = k - s + 1 by omega]
  exact take_snoc (by rw [List.getElem?_drop, show s + (k - s) = k by omega]; exact hx)
theorem seg_self (l : List EvT) (k : Nat) : segN l k k = [] := by unfold segN; simp
theorem seg_len (l : List EvT) (s k : Nat) : (segN l s k).length ≤ k - s := by unfold segN; rw [List.length_take]; omega
theorem seg_mem {l : List EvT} {s k : Nat} {e : EvT} (h : e ∈ segN l s k) : e ∈ l := List.mem_of_mem_drop (List.mem_of_mem_take h)
/-- Net at a place: what came out, where the span began. -/
structure NJ (base : Nat) (l a : List EvT) (A : Option Addr) (n c s k : Nat) (w W : World) : Prop where
  b : Below base w W
  hs : base ≤ W.heap.size
  o : OwnV W base A n c a
  f : foldN nt0 (l.take s) = ⟨a, [], []⟩
  cut : ∀ e ∈ segN l s k, isCut e = false
  le : s ≤ k
section
variable {base : Nat} {l a : List EvT} {A : Option Addr} {n c s k : Nat} {w W W' : World}
theorem NJ.keep (h : NJ base l a A n c s k w W) (hb : Below W.heap.size W W') : NJ base l a A n c s k w W' := ⟨h.b.trans (hb.mono h.hs), Nat.le_trans h.hs hb.size, h.o.below hb, h.f, h.cut, h.le⟩
theorem NJ.fold (h : NJ base l a A n c s k w W) : foldN nt0 (l.take k) = ⟨a, (spN (segN l s k)).m, (spN (segN l s k)).f⟩ := by
  rw [take_seg h.le, foldN_app, h.f, foldN_seg a h.cut]
theorem NJ.len (h : NJ base l a A n c s k w W) : n ≤ s := by
  have h1 := (ntI (l.take s)).n
  rw [h.f, List.length_take] at h1
  simp only [List.length_nil] at h1
  have := h.o.len
  omega
theorem NJ.next (h : NJ base l a A n c s k w W) {x : EvT} (hx : l[k]? = some x) (hc : isCut x = false) : NJ base l a A n c s (k + 1) w W :=
  ⟨h.b, h.hs, h.o, h.f, fun e he => by
    rw [seg_snoc h.le hx] at he
    rcases List.mem_append.1 he with he | he
    · exact h.cut e he
    · obtain rfl : e = x := by simpa using he
      exact hc, Nat.le_succ_of_le h.le⟩
theorem NJ.cutAt (h : NJ base l a A n c s k w W) {x : EvT} (hx : l[k]? = some x) (hc : isCut x = true) {A' : Option Addr} {n' c' : Nat} (hb : Below base w W') (hs : base ≤ W'.heap.size)
    (ho : OwnV W' base A' n' c' (a ++ ((spN (segN l s k)).m ++ finE (spN (segN l s k)).f) ++ [x])) : NJ base l (a ++ ((spN (segN l s k)).m ++ finE (spN (segN l s k)).f) ++ [x]) A' n' c' (k + 1) (k + 1) w W' := by
  refine ⟨hb, hs, ho, ?_, fun e he => ?_, Nat.le_refl _⟩
  · rw [take_snoc hx, foldN_snoc, h.fold]
    unfold stepN
    rw [if_pos hc, List.append_assoc, List.append_assoc, List.append_assoc, List.append_assoc]
  · rw [seg_self] at he; cases he
end
set_option linter.unusedSimpArgs false in
set_option maxHeartbeats 0 in
theorem net_code (A0 : Option Addr) (n0 c0 : Nat) (l : List EvT) (w : World) (hE : Evs w.heap.size w A0 n0 l) (hcap : n0 ≤ c0) (hn : n0 ≤ 200) : Calls Try.prog 15 #[.slice A0 n0 c0] w (EvsP w (netL l)) := by
  have HE := Lib.hid hE
  have HC := Lib.hid hcap
  have HN := Lib.hid hE.n
  obtain ⟨base, hbase⟩ : ∃ base, base = w.heap.size := ⟨_, rfl⟩
  have HBase := Lib.hid hbase
  have HJ0 := Lib.hid (show NJ base l [] none 0 0 0 0 w w from ⟨Below.refl _ _, Nat.le_of_eq hbase, ownV_nil _ _, rfl, fun e he => (by rw [seg_self] at he; cases he), Nat.le_refl _⟩)
  clear hE hcap hbase
  go_enter Try.func15, Try.ntmps15
  go_upto_region 4 with fail
  go_loopw [3, 4, 9] (fun o s i wr => ∃ (k n c sN : Nat) (A : Option Addr) (a : List EvT), i = .int .i64 ((k : Nat) : Int) ∧ o = .slice A n c ∧ s = .int .i64 ((sN : Nat) : Int) ∧ k ≤ n0 ∧ sN ≤ k ∧ Hid (NJ base l a A n c sN k w wr)) (fun _ _ i _ => n0 - (intOf i).toNat)
  case atStart => exact ⟨0, 0, 0, 0, none, [], rfl, rfl, rfl, by omega, by omega, HJ0⟩
  case round =>
    clear HJ0
    obtain ⟨k, n, c, s, A, a, rfl, rfl, rfl, hk, hsk, HJ⟩ := hrel
    by_cases hlt : k < n0
    · have hlt' : k < l.length := by rw [← HN.out]; exact hlt
      obtain ⟨b1, o1, ea, hb1, g1⟩ := HE.out.r.at_ hlt'
      subst ea
      have G1 := Lib.hid (range_below HJ.out.b (by rw [HBase.out]; exact hb1) g1)
      obtain ⟨x, hx⟩ : ∃ x, x = l[k] := ⟨_, rfl⟩
      rw [← hx] at G1
      have HX := Lib.hid (show l[k]? = some x by rw [hx]; exact List.getElem?_eq_getElem hlt')
      have p0 : (0 : Int) ≤ (k : Int) := by omega
      have p1 : (k : Int) < (n0 : Int) := by omega
      have p2 : (n0 : Int) ≤ 200 := by omega
      have HAs := Lib.hid (fun j hj => (HJ.out.o.o.lt j hj).2)
      clear hx g1 hb1 hlt'
      have hsz := ev_size x
      have hone := evC_one x
      have hs6 : (evC ev0).size = (evC x).size := rfl
      have hz6 := ev0_is
      have hnew : (World.alloc wr (.cells (evC ev0) 45)).heap[(World.heap wr).size]? = some (.cells (evC ev0) 45 (0, 0)) := heap_alloc_new _ _
      obtain ⟨es, hes⟩ : ∃ es, es = evC x := ⟨_, rfl⟩
      have hev : evV x = .agg es := by rw [hes]; rfl
      have HEs := Lib.hid hes
      rw [← hes] at hsz hs6 hone
      clear hes
      go_upto_region 6 with (first
        | (refine load_evm rfl (.tmp 12) rfl b1 (o1 + k * 6) rfl x G1.out ?_; rw [hev])
        | (refine wpList_store_row rfl 45 (.tmp 6) (.tmp 13) rfl (World.heap wr).size _ rfl rfl 45 (evC ev0) hnew hsz hs6 hone ?_))
      rw [HEs.out]
      clear hnew hsz hs6 hone hz6 hev HEs es
      obtain ⟨w4, hw4, he4, hb4⟩ := ev_box wr x
      rw [← hw4]
      obtain ⟨ge, hge⟩ : ∃ g, g = (World.heap wr).size := ⟨_, rfl⟩
      rw [← hge] at he4
      rw [← hge]
      have HGge := Lib.hid hge
      clear hw4 hge
      have HJ4 := Lib.hid (HJ.out.keep hb4)
      clear HJ hb4 G1
      go_wp2_with (refine load_ev (by rfl) (.tmp 6) rfl ge rfl x he4 ?_)
      refine (parts_code x w4).mono ?_
      rintro en w5 ⟨rfl, hb5⟩
      have HJ5 := Lib.hid (HJ4.out.keep hb5)
      have he5 := he4.keep hb5
      clear HJ4 he4 hb5
      obtain ⟨q, hq⟩ : ∃ q, q = isCut x := ⟨_, rfl⟩
      rw [← hq]
      cases q with
      | false =>
        have HJ6 := Lib.hid (HJ5.out.next HX.out hq.symm)
        clear HJ5 hq he5 HAs
        go_wp2_with fail
        go_roundw
        case rel => exact ⟨k + 1, _, _, _, _, _, by go_num, rfl, rfl, by omega, by omega, HJ6⟩
        case measure => simp [intOf]; omega
      | true =>
        have HCut := Lib.hid hq.symm
        clear hq
        have hlen := HJ5.out.len
        obtain ⟨A6, hrun6, hr6⟩ := cutV (HE.out.r.below (show Below w.heap.size w w5 from by rw [← HBase.out]; exact HJ5.out.b)) HN.out HC.out hsk (Nat.le_of_lt hlt)
        have hr6 := hr6.more (show w.heap.size ≤ w5.heap.size from by rw [← HBase.out]; exact HJ5.out.hs)
        have hsp := span_code A6 (k - s) (c0 - s) (segN l s k) w5 hr6 (by unfold segN; rw [List.length_take, List.length_drop, ← HN.out]; omega) (fun e he => HE.out.i e (seg_mem he)) HJ5.out.cut (by omega)
        unfold SpP at hsp
        obtain ⟨sg, hsg⟩ : ∃ sg, sg = (spN (segN l s k)).m ++ finE (spN (segN l s k)).f := ⟨_, rfl⟩
        have hsgl : sg.length ≤ 200 := by
          have h1 := spN_len (segN l s k)
          have h2 := fin_len (spN (segN l s k)).f
          have h3 := seg_len l s k
          rw [hsg, List.length_append]
          omega
        rw [← hsg] at hsp
        have HSg := Lib.hid hsg
        have HH6 := Lib.hid hrun6
        have q0 : (0 : Int) ≤ (s : Int) := by omega
        have q1 : (s : Int) ≤ (k : Int) := by omega
        clear hsg hr6
        go_wp2_with fail
        refine hsp.mono ?_
        clear hsp hrun6
        rintro en w6 ⟨A1, n1, c1, rfl, ho1, hb6⟩
        have HJ6 := Lib.hid (HJ5.out.keep hb6)
        have he6 := he5.keep hb6
        have hO6 := HJ6.out.o
        have hR1 := ho1.rd
        have hl1 := ho1.len
        have hs6 := HJ6.out.hs
        have hn1 : n + n1 ≤ 1000000 := by omega
        have HL1 := Lib.hid hl1
        clear HJ5 he5 ho1 hl1
        go_upto_region 8 with (at_builtin; refine wpList_appVG rfl (.tmp 16) (.tmp 21) rfl base A n c _ rfl hO6 _ _ n1 c1 sg rfl hR1 HL1.out hn1 hs6 ?_; intro A7 c7 w7 ho7 hg7 hat7)
        have hge6 := he6.lt
        have hneA : some ge ≠ (Value.slice A n c).ownBlock := fun e => by
          have h1 := HAs.out ge e.symm
          have h2 := HGge.out
          omega
        have he7 : EvB w7 ge x := (hg7.block ge hge6 hneA).trans he6
        have hbw7 : Below base w w7 := hO6.grown HJ6.out.b hs6 hg7
        have hs7 : base ≤ w7.heap.size := Nat.le_trans hs6 hg7.size
        have hb8 : Below w7.heap.size w7 (w7.alloc (.cells (evC x) 45)) := (Below.refl _ _).alloc (Nat.le_refl _) _
        have hE8 : EvB (w7.alloc (.cells (evC x) 45)) w7.heap.size x := heap_alloc_new _ _
        have hO8 := ho7.below hb8
        have HB8 := Lib.hid (hbw7.trans (hb8.mono hs7))
        have hR8 := rdV_one hE8
        have hs8 : base ≤ (w7.alloc (.cells (evC x) 45)).heap.size := Nat.le_trans hs7 hb8.size
        have hn8 : n + n1 + 1 ≤ 1000000 := by have := HL1.out; omega
        clear hO6 hR1 hn1 hs6 he6 hge6 hneA hg7 ho7 hat7 hbw7 hb8 hE8 HAs hs7
        go_upto_region 9 with (first
          | (refine load_ev (by rfl) (.tmp 6) rfl ge rfl x he7 ?_)
          | (refine wpList_buildSliceEv rfl (.tmp 24) rfl x rfl ?_)
          | (at_builtin; refine wpList_appVG rfl (.tmp 23) (.tmp 25) rfl base A7 (n + n1) c7 _ rfl hO8 _ _ 1 1 [x] rfl hR8 rfl hn8 hs8 ?_; intro A9 c9 w9 ho9 hg9 hat9))
        have HJ9 := Lib.hid (show NJ base l (a ++ sg ++ [x]) A9 (n + n1 + 1) c9 (k + 1) (k + 1) w w9 from by
          rw [HSg.out]
          exact HJ6.out.cutAt HX.out HCut.out (hO8.grown HB8.out hs8 hg9) (Nat.le_trans hs8 hg9.size) (by rw [← HSg.out]; exact ho9))
        clear hO8 hR8 hn8 hs8 ho9 hg9 hat9 HJ6 he7 hlen hsgl
        go_wp2_with fail
        go_roundw
        case rel => exact ⟨k + 1, _, _, k + 1, _, _, by go_num, rfl, by go_num, by omega, by omega, HJ9⟩
        case measure => simp [intOf]; omega
    · obtain rfl : k = n0 := by omega
      have hlen := HJ.out.len
      obtain ⟨A6, hrun6, hr6⟩ := cutV_from (HE.out.r.below (show Below w.heap.size w wr from by rw [← HBase.out]; exact HJ.out.b)) HN.out HC.out hsk
      have hseg : segN l s k = l.drop s := by unfold segN; rw [HN.out]; exact List.take_of_length_le (by rw [List.length_drop]; omega)
      rw [← hseg] at hr6
      have hr6 := hr6.more (show w.heap.size ≤ wr.heap.size from by rw [← HBase.out]; exact HJ.out.hs)
      have hsp := span_code A6 (k - s) (c0 - s) (segN l s k) wr hr6 (by unfold segN; rw [List.length_take, List.length_drop, ← HN.out]; omega) (fun e he => HE.out.i e (seg_mem he)) HJ.out.cut (by omega)
      unfold SpP at hsp
      obtain ⟨sg, hsg⟩ : ∃ sg, sg = (spN (segN l s k)).m ++ finE (spN (segN l s k)).f := ⟨_, rfl⟩
      have hsgl : sg.length ≤ 200 := by
        have h1 := spN_len (segN l s k)
        have h2 := fin_len (spN (segN l s k)).f
        have h3 := seg_len l s k
        rw [hsg, List.length_append]
        omega
      rw [← hsg] at hsp
      have HSg := Lib.hid hsg
      have q0 : (0 : Int) ≤ (s : Int) := by omega
      have q1 : (s : Int) ≤ (k : Int) := by omega
      clear hsg hr6 hseg
      go_wp2_with fail
      refine hsp.mono ?_
      clear hsp hrun6
      rintro en w6 ⟨A1, n1, c1, rfl, ho1, hb6⟩
      have HJ6 := Lib.hid (HJ.out.keep hb6)
      have hO6 := HJ6.out.o
      have hR1 := ho1.rd
      have hl1 := ho1.len
      have hs6 := HJ6.out.hs
      have hn1 : n + n1 ≤ 1000000 := by omega
      have HL1 := Lib.hid hl1
      clear HJ ho1 hl1
      go_wp2_with (at_builtin; refine wpList_appVG rfl (.tmp 30) (.tmp 34) rfl base A n c _ rfl hO6 _ _ n1 c1 sg rfl hR1 HL1.out hn1 hs6 ?_; intro A7 c7 w7 ho7 hg7 hat7)
      have HF := Lib.hid (show EvsP w (netL l) (.returned (.slice A7 (n + n1) c7)) w7 from by
        have e1 : netL l = a ++ sg := by
          have h := HJ6.out.fold
          rw [HN.out, List.take_length] at h
          unfold netL outN
          rw [h, HSg.out, HN.out]
          simp only [List.append_assoc]
        refine ⟨_, _, _, rfl, ho7.cap.1, ?_, by rw [← HBase.out]; exact hO6.grown HJ6.out.b hs6 hg7⟩
        refine ho7.evs ?_ |> (fun h => by rw [e1]; exact h)
        rw [← e1]; exact net_i HE.out.i)
      clear ho7 hg7 hat7 hO6 hR1
      go_ret
      exact HF.out
end Go.Proofs.Ytmneajmedopheaa
