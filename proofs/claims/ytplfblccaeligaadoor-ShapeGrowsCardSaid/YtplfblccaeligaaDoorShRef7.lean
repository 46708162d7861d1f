/- Layer 17: the document's Of: the card and the object are copied. -/
import Derived.Test.YtplfblccaeligaaDoorShG8
import Derived.Test.YtplfblccaeligaaDoorShOfM
import Derived.Test.YtplfblccaeligaaDoorReg
import Derived.Deep.DeepCutAuto
namespace Go.Proofs.YtplfblccaeligaaDoor
open Go.RowKit Ex Mx
set_option maxRecDepth 100000
theorem reads_sub0 {Q : Nat → Prop} {w : World} {ys : Array Value} : ∀ {e : ET}, ReadsQ Q w 2 ys e → e.subs ≠ [] → ∃ c b o A2 k2 c2, ys = evC e.op e.n e.m e.who (some ⟨b, o, none⟩) e.subs.length c ∧ Q b ∧
    w.rangeAt b o (evC (sub0 e).op (sub0 e).n (sub0 e).m (sub0 e).who A2 k2 c2).toList
  | .node op n m who [], h, hs => absurd rfl hs
  | .node op n m who (t :: l), h, _ => by
    obtain ⟨_, _, _, _, A, c, e, _, _, hx⟩ := h
    obtain ⟨b, o, xs, rfl, hQ, hra, _, hr⟩ := hx 0 t rfl
    obtain ⟨A2, c2, rfl⟩ := hr.shape
    rw [Nat.zero_mul, Nat.add_zero] at hra
    exact ⟨c, b, o * 5, A2, _, c2, e, hQ, hra⟩
theorem sc_size6 : (Tryd.prog.info? 67).map (·.size) = some 6 := by kernel_rfl
abbrev zeroX : Array Value := #[.int .i64 0, .int .i64 0, .int .i64 0, .int .i64 0, .int .i64 0, .slice none 0 0]
abbrev zeroF : Array Value := #[.int .i64 0, .int .i64 0, .int .i64 0, .int .i64 0, .slice none 0 0]
theorem sh_box (wr : World) (zs xs : Array Value) (t : TypeId) : ∃ w3, w3 = (wr.alloc (.cells zs t)).setRow wr.heap.size xs ∧ w3.heap[wr.heap.size]? = some (.cells xs t (0, 0)) ∧ Below wr.heap.size wr w3 := by
  refine ⟨_, rfl, ?_, below_setRow ((Below.refl _ _).alloc (Nat.le_refl _) _) _ _ (Nat.le_refl _)⟩
  exact setRow_heap _ _ _ _ _ _ (heap_alloc_new _ _)
theorem sh_zero18 : #[Value.int .i64 0, Value.int .i64 0, Value.int .i64 0, Value.int .i64 0, Value.int .i64 0, Value.int .i64 0, Value.int .i64 0, Value.int .i64 0, Value.int .i64 0, Value.int .i64 0, Value.int .i64 0, Value.int .i64 0, Value.int .i64 0, Value.int .i64 0, Value.int .i64 0, Value.int .i64 0, Value.int .i64 0, Value.int .i64 0] = arr .i64 18 (fun _ => 0) := (arr_zero .i64 18).symm
set_option linter.unusedSimpArgs false in
set_option maxHeartbeats 0 in
theorem ofRef_any (s : StT) (O : SlT) (L : Nat → SlT) (cs : Array Value) (id : Int) (w : World) (hR : ReadsS w.heap.size w cs s O L) (hl : (s.lists 8).length ≤ 1000000) (hin : ∀ id ∈ s.lists 8, InS s id) (hid : InS s id) (hno : s.objs.length ≤ 1000000)
    (hob : 0 ≤ objS s id 7 ∧ objS s id 7 ≤ 1073741824 ∧ -1073741824 ≤ objS s id 8 ∧ objS s id 8 ≤ 1073741824 ∧ -1073741824 ≤ objS s id 9 ∧ objS s id 9 ≤ 1073741824 ∧ 0 ≤ objS s id 10 ∧ objS s id 10 ≤ 255) :
    Calls Tryd.prog 11 #[.agg cs, .int .i64 id] w fun en w' => en = .returned (.agg (shV (ofS s id))) ∧ Below w.heap.size w w' := by
  have hcs := hR.size
  have c0 : cs[0]? = some (.slice O.A O.n O.c) := by rw [hR.cs]; exact stC_objs _ _ _ _
  have HR := Lib.hid hR
  have HIN := Lib.hid hin
  have HL8 := Lib.hid hl
  have HII := Lib.hid hid
  have HNO := Lib.hid hno
  have HOB := Lib.hid hob
  obtain ⟨k, o, rfl, hk, ho, hos⟩ := hid.ob
  obtain ⟨b, off, hA, hb, hra⟩ : ∃ b off, O.A = some ⟨b, off, none⟩ ∧ b < w.heap.size ∧ w.rangeAt b (off + k * 18) (arr .i64 18 o).toList := hR.o k o ho
  have hOn := hR.on
  rw [hOn, hA] at c0
  have HOS := Lib.hid hos
  clear hR hin hl hid ho hos hA hOn
  go_enter Tryd.func11, Tryd.ntmps11
  go_upto_region 1 with fail
  have hba : Below w.heap.size w (w.alloc (.cells cs 29)) := (Below.refl _ _).alloc (Nat.le_refl _) _
  have hbb : Below (w.alloc (.cells cs 29)).heap.size (w.alloc (.cells cs 29)) ((w.alloc (.cells cs 29)).alloc (.cells #[.int .i64 0, .int .i64 0, .int .i64 0] 34)) := (Below.refl _ _).alloc (Nat.le_refl _) _
  have hs1 : StAt ((w.alloc (.cells cs 29)).alloc (.cells #[.int .i64 0, .int .i64 0, .int .i64 0] 34)) w.heap.size cs := (StAt.new w cs).keep hbb
  have hp1 : ((w.alloc (.cells cs 29)).alloc (.cells #[.int .i64 0, .int .i64 0, .int .i64 0] 34)).heap[w.heap.size + 1]? = some (.cells #[.int .i64 0, .int .i64 0, .int .i64 0] 34 (0, 0)) := by
    have := heap_alloc_new (w.alloc (.cells cs 29)) (.cells #[.int .i64 0, .int .i64 0, .int .i64 0] 34)
    simpa using this
  have hb1 := keepB hbb hba
  obtain ⟨w1, hw1⟩ : ∃ w1, w1 = (w.alloc (.cells cs 29)).alloc (.cells #[.int .i64 0, .int .i64 0, .int .i64 0] 34) := ⟨_, rfl⟩
  rw [← hw1] at hs1 hp1 hb1
  show Code.wp _ _ _ _ ((w.alloc (.cells cs 29)).alloc (.cells #[.int .i64 0, .int .i64 0, .int .i64 0] 34))
  rw [← hw1]
  obtain ⟨gs, hgs⟩ : ∃ g, g = w.heap.size := ⟨_, rfl⟩
  obtain ⟨gp, hgp⟩ : ∃ g, g = gs + 1 := ⟨_, rfl⟩
  rw [← hgs] at hs1 hp1
  rw [← hgp] at hp1
  rw [← hgs, ← hgp]
  have HG := Lib.hid (And.intro hgs hgp)
  clear hw1 hgs hgp hba hbb
  obtain ⟨y, hy⟩ : ∃ y, y = cdS s (k : Int) := ⟨_, rfl⟩
  have HCD := Lib.hid (fun W (hW : Below w1.heap.size w1 W) => (show Calls Tryd.prog 27 #[.agg cs, .int .i64 (k : Int)] W (CdP y W) from by rw [hy]; exact cardS_any s O L cs (k : Int) W (HR.out.grow (keepB hW hb1)) HII.out))
  have HY := Lib.hid hy
  clear hy
  have hra1 := range_below hb1 hb hra
  have hl1 : b < w1.heap.size := Nat.lt_of_lt_of_le hb hb1.size
  have k0 : ∀ W, Below w1.heap.size w1 W → W.cell? ⟨gs, 0, none⟩ = some (.slice (some ⟨b, off, none⟩) s.objs.length O.c) := fun W hW => by rw [(hs1.keep hW).cell]; exact c0
  have p0 : (0 : Int) ≤ (k : Int) := by omega
  have p1 : (k : Int) < (s.objs.length : Int) := by omega
  have HS1 := Lib.hid hs1
  have HP1 := Lib.hid hp1
  have HB1 := Lib.hid hb1
  clear hs1 hp1 hb1 hra hb c0
  go_cut [5, 6] (fun cv ov wx => ∃ (g5 g6 : Nat) (cs5 : Array Value), cv = .pointer (some ⟨g5, 0, none⟩) ∧ ov = .pointer (some ⟨g6, 0, none⟩) ∧ Hid (Below w1.heap.size w1 wx ∧ CdAt wx g5 cs5 ∧ (∃ A k cc, cs5 = cardC y A k cc) ∧ ArrAt .i64 18 37 wx g6 o))
  case rest =>
    clear k0 hra1 hl1 p0 p1 HCD
    obtain ⟨g5, g6, cs5, rfl, rfl, HR1⟩ := hcut
    obtain ⟨sy, hsy, hsy9⟩ : ∃ sy : Nat, y.says = (sy : Int) ∧ sy ≤ 255 := by
      have h := cdS_says s (k : Int)
      rw [← HY.out] at h
      exact ⟨y.says.toNat, by omega, by omega⟩
    have hcv : IntKind.u64.wrap (sy : Int) = (sy : Int) := by rw [IntKind.wrap_u64]; omega
    have hk2 : ∀ W, Below wc.heap.size wc W → W.cell? ⟨g5, 9, none⟩ = some (.int .i64 y.power) ∧ W.cell? ⟨g5, 10, none⟩ = some (.int .i64 y.tough) ∧ W.cell? ⟨g5, 11, none⟩ = some (.int .i64 y.says) := fun W hW => by
      obtain ⟨_, h2, ⟨A5, k5, c5, e5⟩, _⟩ := HR1.out
      have h3 := CdAt.keep h2 hW
      rw [h3.cell, h3.cell, h3.cell, e5]
      unfold cardC
      rw [arr6]
      exact ⟨rfl, rfl, rfl⟩
    rw [hsy] at hk2
    have k1 := fun W h => (hk2 W h).1
    have k2 := fun W h => (hk2 W h).2.1
    have k3 := fun W h => (hk2 W h).2.2
    clear hk2
    go_upto_region 2 with fail
    refine region_below (by kernel_rfl) (fun hHeld => ?_)
    refine wpAnyH_take (i := 0) (v := ?_) rfl (by kernel_rfl) (by kernel_rfl) (by kernel_rfl) (fun _ _ _ h => h) (Or.inl ⟨by rfl, ?_⟩) hHeld ?_
    rotate_left
    · (intro w hSw; go_simp; (try with_reducible rfl))
    simp only [Act.put, List.getElem_toArray, List.getElem_cons_zero, List.getElem_cons_succ, List.setIfInBounds_toArray, List.set_cons_zero, List.set_cons_succ]
    refine wpAnyH_take (i := 1) (v := ?_) rfl (by kernel_rfl) (by kernel_rfl) (by kernel_rfl) (fun _ _ _ h => h) (Or.inl ⟨by rfl, ?_⟩) hHeld ?_
    rotate_left
    · (intro w hSw; go_simp; (try with_reducible rfl))
    simp only [Act.put, List.getElem_toArray, List.getElem_cons_zero, List.getElem_cons_succ, List.setIfInBounds_toArray, List.set_cons_zero, List.set_cons_succ]
    refine wpAnyH_take (i := 2) (v := ?_) rfl (by kernel_rfl) (by kernel_rfl) (by kernel_rfl) (fun _ _ _ h => h) (Or.inl ⟨by rfl, ?_⟩) hHeld ?_
    rotate_left
    · (intro w hSw; go_simp; (try with_reducible rfl))
    simp only [Act.put, List.getElem_toArray, List.getElem_cons_zero, List.getElem_cons_succ, List.setIfInBounds_toArray, List.set_cons_zero, List.set_cons_succ]
    refine wpAnyH_take (i := 3) (v := ?_) rfl (by kernel_rfl) (by kernel_rfl) (by kernel_rfl) (fun _ _ _ h => h) (Or.inl ⟨by rfl, ?_⟩) hHeld ?_
    rotate_left
    · (intro w hSw; go_simp; (try with_reducible rfl))
    simp only [Act.put, List.getElem_toArray, List.getElem_cons_zero, List.getElem_cons_succ, List.setIfInBounds_toArray, List.set_cons_zero, List.set_cons_succ]
    refine wpAnyH_take (i := 4) (v := ?_) rfl (by kernel_rfl) (by kernel_rfl) (by kernel_rfl) (fun _ _ _ h => h) (Or.inl ⟨by rfl, ?_⟩) hHeld ?_
    rotate_left
    · (intro w hSw; go_simp; (try with_reducible rfl))
    simp only [Act.put, List.getElem_toArray, List.getElem_cons_zero, List.getElem_cons_succ, List.setIfInBounds_toArray, List.set_cons_zero, List.set_cons_succ]
    refine wpAnyH_take (i := 5) (v := ?_) rfl (by kernel_rfl) (by kernel_rfl) (by kernel_rfl) (fun _ _ _ h => h) (Or.inl ⟨by rfl, ?_⟩) hHeld ?_
    rotate_left
    · (intro w hSw; go_simp; (try with_reducible rfl))
    simp only [Act.put, List.getElem_toArray, List.getElem_cons_zero, List.getElem_cons_succ, List.setIfInBounds_toArray, List.set_cons_zero, List.set_cons_succ]
    refine wpAnyH_take (i := 6) (v := ?_) rfl (by kernel_rfl) (by kernel_rfl) (by kernel_rfl) (fun _ _ _ h => h) (Or.inl ⟨by rfl, ?_⟩) hHeld ?_
    rotate_left
    · (intro w hSw; go_simp; (try with_reducible rfl))
    simp only [Act.put, List.getElem_toArray, List.getElem_cons_zero, List.getElem_cons_succ, List.setIfInBounds_toArray, List.set_cons_zero, List.set_cons_succ]
    refine wpAnyH_take (i := 7) (v := ?_) rfl (by kernel_rfl) (by kernel_rfl) (by kernel_rfl) (fun _ _ _ h => h) (Or.inl ⟨by rfl, ?_⟩) hHeld ?_
    rotate_left
    · (intro w hSw; go_simp; (try with_reducible rfl))
    simp only [Act.put, List.getElem_toArray, List.getElem_cons_zero, List.getElem_cons_succ, List.setIfInBounds_toArray, List.set_cons_zero, List.set_cons_succ]
    refine wpAnyH_take (i := 8) (v := ?_) rfl (by kernel_rfl) (by kernel_rfl) (by kernel_rfl) (fun _ _ _ h => h) (Or.inl ⟨by rfl, ?_⟩) hHeld ?_
    rotate_left
    · (intro w hSw; go_simp; (try with_reducible rfl))
    simp only [Act.put, List.getElem_toArray, List.getElem_cons_zero, List.getElem_cons_succ, List.setIfInBounds_toArray, List.set_cons_zero, List.set_cons_succ]
    refine wpAnyH_take (i := 9) (v := ?_) rfl (by kernel_rfl) (by kernel_rfl) (by kernel_rfl) (fun _ _ _ h => h) (Or.inl ⟨by rfl, ?_⟩) hHeld ?_
    rotate_left
    · (intro w hSw; go_simp; (try with_reducible rfl))
    simp only [Act.put, List.getElem_toArray, List.getElem_cons_zero, List.getElem_cons_succ, List.setIfInBounds_toArray, List.set_cons_zero, List.set_cons_succ]
    refine wpAnyH_done (by kernel_rfl) ?_ _
    have HR2 := Lib.hid (show Below w1.heap.size w1 wc.drew ∧ ArrAt .i64 18 37 wc.drew g6 o from ⟨keepB hHeld HR1.out.1, ArrAt.keep HR1.out.2.2.2 hHeld⟩)
    clear k1 k2 k3 hcv hHeld HR1
    generalize wc.drew = w2 at HR2 ⊢
    have hs2 := HS1.out.keep HR2.out.1
    have hst := staticsRef_any s O L cs w2 (HR.out.grow (keepB HR2.out.1 HB1.out)) HL8.out HIN.out
    go_upto_region 4 with (refine load_wantS (by rfl) (.tmp 2) rfl gs rfl cs hs2 hcs ?_)
    refine hst.mono ?_
    rintro en w3 ⟨A3, n3, c3, rfl, hc3, hI3⟩
    clear hst hs2
    have HW3 := Lib.hid (show Below w1.heap.size w1 w3 ∧ ArrAt .i64 18 37 w3 g6 o from ⟨keepB hI3.b HR2.out.1, ArrAt.keep HR2.out.2 hI3.b⟩)
    have HI3 := Lib.hid hI3
    have HN3 := Lib.hid hI3.n_
    have hn3 : n3 ≤ 9000000 := by
      have h1 := HN3.out
      have h2 := statL_len s (s.lists 8)
      have h3 := HL8.out
      unfold statS at h1
      omega
    clear hI3 HR2
    have HB0 := Lib.hid (show Below w3.heap.size w3 w3 from Below.refl _ _)
    go_upto_region 4 with fail
    obtain ⟨P0, hP0⟩ : ∃ x, x = y.power := ⟨_, rfl⟩
    obtain ⟨T0, hT0⟩ : ∃ x, x = y.tough := ⟨_, rfl⟩
    rw [← hP0, ← hT0]
    have HPT := Lib.hid (And.intro hP0 hT0)
    clear hP0 hT0
    have HF0 := Lib.hid (show ((statS s).take 0).foldl (becS s (k : Int)) (P0, T0) = (P0, T0) from rfl)
    go_loopw [7, 8, 37] (fun p t i wr => ∃ (j : Nat) (p1 t1 : Int), i = .int .i64 ((j : Nat) : Int) ∧ p = .int .i64 p1 ∧ t = .int .i64 t1 ∧ j ≤ n3 ∧ Hid (((statS s).take j).foldl (becS s (k : Int)) (P0, T0) = (p1, t1)) ∧ Hid (Below w3.heap.size w3 wr)) (fun _ _ i _ => n3 - (intOf i).toNat)
    case atStart => exact ⟨0, _, _, rfl, rfl, rfl, by omega, HF0, HB0⟩
    case round =>
      clear HF0 HB0
      obtain ⟨j, p1, t1, rfl, rfl, rfl, hj, HF, HB⟩ := hrel
      by_cases hlt : j < n3
      · skip
        obtain ⟨x, hx⟩ : ∃ x, (statS s)[j]? = some x := ⟨_, List.getElem?_eq_getElem (by rw [← HN3.out]; exact hlt)⟩
        have HFN := Lib.hid (show ((statS s).take (j + 1)).foldl (becS s (k : Int)) (P0, T0) = becS s (k : Int) (p1, t1) x from by rw [List.take_add_one, hx, List.foldl_append, HF.out]; rfl)
        obtain ⟨hm8, hok⟩ := stat_ok (List.mem_of_getElem? hx)
        have HXI := Lib.hid (HIN.out _ hm8)
        obtain ⟨g, ys, hA, hg, hrg, hrd⟩ := HI3.out.at_ hx
        subst hA
        obtain ⟨ce, bs, os, A2, k2, c2, rfl, hbs, hrs⟩ := reads_sub0 hrd hok.1
        obtain ⟨xi, e⟩ := x
        simp only at hm8 hok HXI hrg hrs hrd ⊢
        have hrg2 := range_below HB.out hg hrg
        have hrs2 := range_below HB.out hbs hrs
        have hln : 0 < e.subs.length := List.length_pos_iff.2 hok.1
        have q0 : (0 : Int) ≤ (j : Int) := by omega
        have q1 : (j : Int) < (n3 : Int) := by omega
        have q2 : (0 : Int) < (e.subs.length : Int) := by omega
        have HOK := Lib.hid hok
        have hrs0 := Lib.hid hrs
        clear hrd hx hm8 hrg hrs hok
        have hs6 : (scL xi (evC e.op e.n e.m e.who (some ⟨bs, os, none⟩) e.subs.length ce)).toArray.size = 6 := rfl
        have hs7 : (Tryd.prog.info? 67).map (·.size) = some (scL xi (evC e.op e.n e.m e.who (some ⟨bs, os, none⟩) e.subs.length ce)).toArray.size := sc_size6
        have ho6 : (scL xi (evC e.op e.n e.m e.who (some ⟨bs, os, none⟩) e.subs.length ce)).toArray.all (·.oneCell') = true := by simp [scL, evC, Value.oneCell']
        have hnew : (wr.alloc (.cells zeroX 67)).heap[wr.heap.size]? = some (.cells zeroX 67 (0, 0)) := heap_alloc_new _ _
        go_upto_region 6 with (first
          | (refine wpList_load_mid rfl 67 (.tmp 39) rfl g (j * 6) rfl _ _ hrg2 Tryd.underlying67 rfl sc_size6 ?_)
          | (refine wpList_store_row rfl 67 (.tmp 11) (.tmp 40) rfl wr.heap.size _ rfl rfl 67 zeroX hnew hs7 rfl ho6 ?_))
        obtain ⟨w5, hw5, hE5, hb5⟩ := sh_box wr zeroX (scL xi (evC e.op e.n e.m e.who (some ⟨bs, os, none⟩) e.subs.length ce)).toArray 67
        show Code.wp _ _ _ _ ((wr.alloc (.cells zeroX 67)).setRow wr.heap.size (scL xi (evC e.op e.n e.m e.who (some ⟨bs, os, none⟩) e.subs.length ce)).toArray)
        rw [← hw5]
        obtain ⟨g11, hg11⟩ : ∃ g, g = wr.heap.size := ⟨_, rfl⟩
        rw [← hg11] at hE5
        rw [← hg11]
        have HB5 := Lib.hid (keepB hb5 HB.out)
        clear hw5 hnew hs6 hs7 ho6 hrg2 hg11 hrs2 hb5
        have hrs5 := range_below HB5.out hbs hrs0.out
        have cs5a : w5.cell? ⟨g11, 5, none⟩ = some (.slice (some ⟨bs, os, none⟩) e.subs.length ce) := by rw [cell_of_row w5 g11 5 _ _ _ hE5]; rfl
        obtain ⟨f1, hf1⟩ : ∃ x, x = (sub0 e).op := ⟨_, rfl⟩
        obtain ⟨f2, hf2⟩ : ∃ x, x = (sub0 e).n := ⟨_, rfl⟩
        obtain ⟨f3, hf3⟩ : ∃ x, x = (sub0 e).m := ⟨_, rfl⟩
        obtain ⟨f4, hf4⟩ : ∃ x, x = (sub0 e).who := ⟨_, rfl⟩
        rw [← hf1, ← hf2, ← hf3, ← hf4] at hrs5
        have HSub := Lib.hid (And.intro hf1 (And.intro hf2 hf3))
        clear hf1 hf2 hf3 hf4
        have hz5 : (evC f1 f2 f3 f4 A2 k2 c2).size = 5 := rfl
        have hz6 : (Tryd.prog.info? 65).map (·.size) = some (evC f1 f2 f3 f4 A2 k2 c2).size := size5
        have ho5 : (evC f1 f2 f3 f4 A2 k2 c2).all (·.oneCell') = true := by simp [evC, Value.oneCell']
        have hnew : (w5.alloc (.cells zeroF 65)).heap[w5.heap.size]? = some (.cells zeroF 65 (0, 0)) := heap_alloc_new _ _
        go_upto_region 7 with (first
          | (refine load_sub rfl (.tmp 44) rfl bs os rfl _ hz5 hrs5 ?_)
          | (refine wpList_store_row rfl 65 (.tmp 12) (.tmp 45) rfl w5.heap.size _ rfl rfl 65 zeroF hnew hz6 rfl ho5 ?_))
        obtain ⟨w6, hw6, hE6, hb6⟩ := sh_box w5 zeroF (evC f1 f2 f3 f4 A2 k2 c2) 65
        show Code.wp _ _ _ _ ((w5.alloc (.cells zeroF 65)).setRow w5.heap.size (evC f1 f2 f3 f4 A2 k2 c2))
        rw [← hw6]
        obtain ⟨g12, hg12⟩ : ∃ g, g = w5.heap.size := ⟨_, rfl⟩
        rw [← hg12] at hE6
        rw [← hg12]
        have HB6 := Lib.hid (keepB hb6 HB5.out)
        have hE11 : w6.heap[g11]? = some (.cells (scL xi (evC e.op e.n e.m e.who (some ⟨bs, os, none⟩) e.subs.length ce)).toArray 67 (0, 0)) := (hb6.block g11 (Array.getElem?_eq_some_iff.1 hE5).1).trans hE5
        clear hw6 hnew hz5 hz6 ho5 hrs5 hg12 hb6 cs5a hE5
        have c6a : w6.cell? ⟨g12, 0, none⟩ = some (.int .i64 f1) := by rw [cell_of_row w6 g12 0 _ _ _ hE6]; rfl
        by_cases hop : f1 = 24
        · subst hop
          have hs6 := HS1.out.keep (keepB HB6.out HW3.out.1)
          have hxr : w6.heap[g11]? = some (.cells (scC (xi, e) (some ⟨bs, os, none⟩) e.subs.length ce) 67 (0, 0)) := hE11
          have hwi := withinRef_any s O L cs (xi, e) (some ⟨bs, os, none⟩) e.subs.length ce (k : Int) w6 (HR.out.grow (keepB (keepB HB6.out HW3.out.1) HB1.out)) HNO.out HII.out HXI.out
          have hxz : (Tryd.prog.info? 67).map (·.size) = some (scC (xi, e) (some ⟨bs, os, none⟩) e.subs.length ce).size := sc_size6
          clear hE11 HF
          go_wp2_with (first
            | (refine load_wantS (by rfl) (.tmp 2) rfl gs rfl cs hs6 hcs ?_)
            | (refine BigFrame.wpList_want (by rfl) fun _ hK' => wp_load_row 67 (.tmp 11) rfl g11 rfl 67 _ (0, 0) _ hxr Tryd.underlying67 rfl hxz (hK' _ _ ?_)))
          refine hwi.mono ?_
          rintro en w7 ⟨rfl, hb7⟩
          have HB7 := Lib.hid (keepB hb7 HB6.out)
          have c7o : w7.cell? ⟨g12, 0, none⟩ = some (.int .i64 24) := by rw [cell_of_row w7 g12 0 _ _ _ ((hb7.block g12 (Array.getElem?_eq_some_iff.1 hE6).1).trans hE6)]; rfl
          have c7a : w7.cell? ⟨g12, 1, none⟩ = some (.int .i64 f2) := by rw [cell_of_row w7 g12 1 _ _ _ ((hb7.block g12 (Array.getElem?_eq_some_iff.1 hE6).1).trans hE6)]; rfl
          have c7b : w7.cell? ⟨g12, 2, none⟩ = some (.int .i64 f3) := by rw [cell_of_row w7 g12 2 _ _ _ ((hb7.block g12 (Array.getElem?_eq_some_iff.1 hE6).1).trans hE6)]; rfl
          have hl12 : g12 < w7.heap.size := Nat.lt_of_lt_of_le (Array.getElem?_eq_some_iff.1 hE6).1 hb7.size
          clear hwi hs6 hxr hxz hE6 c6a hb7
          obtain ⟨gb, hgb⟩ : ∃ gb, gb = grpB s (xi, e) (k : Int) := ⟨_, rfl⟩
          rw [← hgb]
          cases gb with
          | false =>
            have HF2 := Lib.hid (show ((statS s).take (j + 1)).foldl (becS s (k : Int)) (P0, T0) = (p1, t1) from by
              rw [HFN.out]; unfold becS; rw [if_neg fun h => by rw [← hgb] at h; exact Bool.noConfusion h.2])
            clear hgb HFN c7a c7b c7o
            go_wp2_with fail
            go_roundw
            case rel => exact ⟨j + 1, _, _, by go_num, rfl, rfl, by omega, HF2, HB7⟩
            case measure => simp [intOf]; omega
          | true =>
            have HF2 := Lib.hid (show ((statS s).take (j + 1)).foldl (becS s (k : Int)) (P0, T0) = (f2, f3) from by
              rw [HFN.out]; unfold becS; rw [if_pos ⟨HSub.out.1.symm, hgb.symm⟩, HSub.out.2.1, HSub.out.2.2])
            have k1 : ∀ W, Below w7.heap.size w7 W → W.cell? ⟨g12, 1, none⟩ = some (.int .i64 f2) := fun W hW => (World.cell?_of_block (hW.block g12 hl12)).trans c7a
            have k2 : ∀ W, Below w7.heap.size w7 W → W.cell? ⟨g12, 2, none⟩ = some (.int .i64 f3) := fun W hW => (World.cell?_of_block (hW.block g12 hl12)).trans c7b
            clear hgb HFN c7a c7b c7o
            go_upto_region 8 with fail
            refine region_below (by kernel_rfl) (fun hHeld => ?_)
            refine wpAnyH_take (i := 0) (v := ?_) rfl (by kernel_rfl) (by kernel_rfl) (by kernel_rfl) (fun _ _ _ h => h) (Or.inl ⟨by rfl, ?_⟩) hHeld ?_
            rotate_left
            · (intro w hSw; go_simp; (try with_reducible rfl))
            simp only [Act.put, List.getElem_toArray, List.getElem_cons_zero, List.getElem_cons_succ, List.setIfInBounds_toArray, List.set_cons_zero, List.set_cons_succ]
            refine wpAnyH_take (i := 1) (v := ?_) rfl (by kernel_rfl) (by kernel_rfl) (by kernel_rfl) (fun _ _ _ h => h) (Or.inl ⟨by rfl, ?_⟩) hHeld ?_
            rotate_left
            · (intro w hSw; go_simp; (try with_reducible rfl))
            simp only [Act.put, List.getElem_toArray, List.getElem_cons_zero, List.getElem_cons_succ, List.setIfInBounds_toArray, List.set_cons_zero, List.set_cons_succ]
            refine wpAnyH_take (i := 2) (v := ?_) rfl (by kernel_rfl) (by kernel_rfl) (by kernel_rfl) (fun _ _ _ h => h) (Or.inl ⟨by rfl, ?_⟩) hHeld ?_
            rotate_left
            · (intro w hSw; go_simp; (try with_reducible rfl))
            simp only [Act.put, List.getElem_toArray, List.getElem_cons_zero, List.getElem_cons_succ, List.setIfInBounds_toArray, List.set_cons_zero, List.set_cons_succ]
            refine wpAnyH_take (i := 3) (v := ?_) rfl (by kernel_rfl) (by kernel_rfl) (by kernel_rfl) (fun _ _ _ h => h) (Or.inl ⟨by rfl, ?_⟩) hHeld ?_
            rotate_left
            · (intro w hSw; go_simp; (try with_reducible rfl))
            simp only [Act.put, List.getElem_toArray, List.getElem_cons_zero, List.getElem_cons_succ, List.setIfInBounds_toArray, List.set_cons_zero, List.set_cons_succ]
            refine wpAnyH_take (i := 4) (v := ?_) rfl (by kernel_rfl) (by kernel_rfl) (by kernel_rfl) (fun _ _ _ h => h) (Or.inl ⟨by rfl, ?_⟩) hHeld ?_
            rotate_left
            · (intro w hSw; go_simp; (try with_reducible rfl))
            simp only [Act.put, List.getElem_toArray, List.getElem_cons_zero, List.getElem_cons_succ, List.setIfInBounds_toArray, List.set_cons_zero, List.set_cons_succ]
            refine wpAnyH_take (i := 5) (v := ?_) rfl (by kernel_rfl) (by kernel_rfl) (by kernel_rfl) (fun _ _ _ h => h) (Or.inl ⟨by rfl, ?_⟩) hHeld ?_
            rotate_left
            · (intro w hSw; go_simp; (try with_reducible rfl))
            simp only [Act.put, List.getElem_toArray, List.getElem_cons_zero, List.getElem_cons_succ, List.setIfInBounds_toArray, List.set_cons_zero, List.set_cons_succ]
            refine wpAnyH_done (by kernel_rfl) ?_ _
            have HB8 := Lib.hid (keepB hHeld HB7.out)
            clear k1 k2 hHeld
            go_wp2_with fail
            go_roundw
            case rel => exact ⟨j + 1, _, _, by go_num, rfl, rfl, by omega, HF2, HB8⟩
            case measure => simp [intOf]; omega
        · have d24 : (f1 == 24) = false := by simp [hop]
          have HF2 := Lib.hid (show ((statS s).take (j + 1)).foldl (becS s (k : Int)) (P0, T0) = (p1, t1) from by
            rw [HFN.out]; unfold becS; rw [if_neg fun h => hop (HSub.out.1.trans h.1)])
          clear hop hE11 HF HFN
          go_wp2_with fail
          go_roundw
          case rel => exact ⟨j + 1, _, _, by go_num, rfl, rfl, by omega, HF2, HB6⟩
          case measure => simp [intOf]; omega
      · obtain rfl : j = n3 := by omega
        have hE : (statS s).foldl (becS s (k : Int)) (P0, T0) = (p1, t1) := by
          have h := HF.out
          rw [List.take_of_length_le (by rw [← HN3.out]; exact Nat.le_refl _)] at h
          exact h
        have hbd := bec_bd s (k : Int) (statS s) (P0, T0) (fun x hx => (stat_ok hx).2) (by rw [HPT.out.1, HPT.out.2, HY.out]; exact cdS_pt s _)
        rw [hE] at hbd
        obtain ⟨b1, b2, b3, b4⟩ := hbd
        simp only at b1 b2 b3 b4
        have HE1 := Lib.hid hE
        have hW4 := keepB HB.out HW3.out.1
        have hA64 := ArrAt.keep HW3.out.2 HB.out
        have k7 : ∀ W, Below wr.heap.size wr W → W.cell? ⟨g6, 7, none⟩ = some (.int .i64 (o 7)) := fun W hW => ArrAt.cell (ArrAt.keep hA64 hW) (by omega)
        obtain ⟨v7, hv7⟩ : ∃ v, v = o 7 := ⟨_, rfl⟩
        have hv7b : 0 ≤ v7 ∧ v7 ≤ 1073741824 := by
          have h := HOB.out
          rw [HOS.out] at h
          rw [hv7]; exact ⟨h.1, h.2.1⟩
        rw [← hv7] at k7
        have HV7 := Lib.hid hv7
        have HW4 := Lib.hid (And.intro hW4 hA64)
        obtain ⟨p2, hp2⟩ : ∃ v, v = p1 + v7 := ⟨_, rfl⟩
        obtain ⟨t2, ht2⟩ : ∃ v, v = t1 + v7 := ⟨_, rfl⟩
        have hwp : IntKind.i64.wrap (p1 + v7) = p2 := by rw [hp2]; exact i64_in (by omega) (by omega)
        have hwt : IntKind.i64.wrap (t1 + v7) = t2 := by rw [ht2]; exact i64_in (by omega) (by omega)
        have HPT2 := Lib.hid (show (p2 = p1 + v7 ∧ t2 = t1 + v7) ∧ -1073742079 ≤ p2 ∧ p2 ≤ 1073742079 ∧ -1073742079 ≤ t2 ∧ t2 ≤ 1073742079 from ⟨⟨hp2, ht2⟩, by omega, by omega, by omega, by omega⟩)
        clear hE HF hW4 hA64 hv7 hp2 ht2 b1 b2 b3 b4 hv7b hlt hj HN3 hn3 HI3 HB HW3
        go_upto_region 10 with fail
        refine region_below (by kernel_rfl) (fun hHeld => ?_)
        refine wpAnyH_take (i := 0) (v := ?_) rfl (by kernel_rfl) (by kernel_rfl) (by kernel_rfl) (fun _ _ _ h => h) (Or.inl ⟨by rfl, ?_⟩) hHeld ?_
        rotate_left
        · (intro w hSw; go_simp; (try with_reducible rfl))
        simp only [Act.put, List.getElem_toArray, List.getElem_cons_zero, List.getElem_cons_succ, List.setIfInBounds_toArray, List.set_cons_zero, List.set_cons_succ]
        refine wpAnyH_take (i := 1) (v := ?_) rfl (by kernel_rfl) (by kernel_rfl) (by kernel_rfl) (fun _ _ _ h => h) (Or.inl ⟨by rfl, ?_⟩) hHeld ?_
        rotate_left
        · (intro w hSw; go_simp; (try with_reducible rfl))
        simp only [Act.put, List.getElem_toArray, List.getElem_cons_zero, List.getElem_cons_succ, List.setIfInBounds_toArray, List.set_cons_zero, List.set_cons_succ]
        refine wpAnyH_take (i := 2) (v := ?_) rfl (by kernel_rfl) (by kernel_rfl) (by kernel_rfl) (fun _ _ _ h => h) (Or.inl ⟨by rfl, ?_⟩) hHeld ?_
        rotate_left
        · (intro w hSw; go_simp; (try with_reducible rfl))
        simp only [Act.put, List.getElem_toArray, List.getElem_cons_zero, List.getElem_cons_succ, List.setIfInBounds_toArray, List.set_cons_zero, List.set_cons_succ]
        refine wpAnyH_take (i := 3) (v := ?_) rfl (by kernel_rfl) (by kernel_rfl) (by kernel_rfl) (fun _ _ _ h => h) (Or.inl ⟨by rfl, ?_⟩) hHeld ?_
        rotate_left
        · (intro w hSw; go_simp; (try with_reducible rfl))
        simp only [Act.put, List.getElem_toArray, List.getElem_cons_zero, List.getElem_cons_succ, List.setIfInBounds_toArray, List.set_cons_zero, List.set_cons_succ]
        refine wpAnyH_take (i := 4) (v := ?_) rfl (by kernel_rfl) (by kernel_rfl) (by kernel_rfl) (fun _ _ _ h => h) (Or.inl ⟨by rfl, ?_⟩) hHeld ?_
        rotate_left
        · (intro w hSw; go_simp; (try with_reducible rfl))
        simp only [Act.put, List.getElem_toArray, List.getElem_cons_zero, List.getElem_cons_succ, List.setIfInBounds_toArray, List.set_cons_zero, List.set_cons_succ]
        refine wpAnyH_take (i := 5) (v := ?_) rfl (by kernel_rfl) (by kernel_rfl) (by kernel_rfl) (fun _ _ _ h => h) (Or.inl ⟨by rfl, ?_⟩) hHeld ?_
        rotate_left
        · (intro w hSw; go_simp; (try with_reducible rfl))
        simp only [Act.put, List.getElem_toArray, List.getElem_cons_zero, List.getElem_cons_succ, List.setIfInBounds_toArray, List.set_cons_zero, List.set_cons_succ]
        refine wpAnyH_take (i := 6) (v := ?_) rfl (by kernel_rfl) (by kernel_rfl) (by kernel_rfl) (fun _ _ _ h => h) (Or.inl ⟨by rfl, ?_⟩) hHeld ?_
        rotate_left
        · (intro w hSw; go_simp; (try with_reducible rfl))
        simp only [Act.put, List.getElem_toArray, List.getElem_cons_zero, List.getElem_cons_succ, List.setIfInBounds_toArray, List.set_cons_zero, List.set_cons_succ]
        refine wpAnyH_take (i := 7) (v := ?_) rfl (by kernel_rfl) (by kernel_rfl) (by kernel_rfl) (fun _ _ _ h => h) (Or.inl ⟨by rfl, ?_⟩) hHeld ?_
        rotate_left
        · (intro w hSw; go_simp; (try with_reducible rfl))
        simp only [Act.put, List.getElem_toArray, List.getElem_cons_zero, List.getElem_cons_succ, List.setIfInBounds_toArray, List.set_cons_zero, List.set_cons_succ]
        refine wpAnyH_take (i := 8) (v := ?_) rfl (by kernel_rfl) (by kernel_rfl) (by kernel_rfl) (fun _ _ _ h => h) (Or.inl ⟨by rfl, ?_⟩) hHeld ?_
        rotate_left
        · (intro w hSw; go_simp; (try with_reducible rfl))
        simp only [Act.put, List.getElem_toArray, List.getElem_cons_zero, List.getElem_cons_succ, List.setIfInBounds_toArray, List.set_cons_zero, List.set_cons_succ]
        refine wpAnyH_take (i := 9) (v := ?_) rfl (by kernel_rfl) (by kernel_rfl) (by kernel_rfl) (fun _ _ _ h => h) (Or.inl ⟨by rfl, ?_⟩) hHeld ?_
        rotate_left
        · (intro w hSw; go_simp; (try with_reducible rfl))
        simp only [Act.put, List.getElem_toArray, List.getElem_cons_zero, List.getElem_cons_succ, List.setIfInBounds_toArray, List.set_cons_zero, List.set_cons_succ]
        refine wpAnyH_done (by kernel_rfl) ?_ _
        have HR2 := Lib.hid (show Below w1.heap.size w1 wr.drew ∧ ArrAt .i64 18 37 wr.drew g6 o from ⟨keepB hHeld HW4.out.1, ArrAt.keep HW4.out.2 hHeld⟩)
        clear k7 hHeld HW4 hwp hwt
        generalize wr.drew = w2 at HR2 ⊢
        have hs2 := HS1.out.keep HR2.out.1
        have hst := staticsRef_any s O L cs w2 (HR.out.grow (keepB HR2.out.1 HB1.out)) HL8.out HIN.out
        go_upto_region 12 with (refine load_wantS (by rfl) (.tmp 2) rfl gs rfl cs hs2 hcs ?_)
        refine hst.mono ?_
        rintro en w3 ⟨A3, n3, c3, rfl, hc3, hI3⟩
        clear hst hs2
        have HW3 := Lib.hid (show Below w1.heap.size w1 w3 ∧ ArrAt .i64 18 37 w3 g6 o from ⟨keepB hI3.b HR2.out.1, ArrAt.keep HR2.out.2 hI3.b⟩)
        have HI3 := Lib.hid hI3
        have HN3 := Lib.hid hI3.n_
        have hn3 : n3 ≤ 9000000 := by
          have h1 := HN3.out
          have h2 := statL_len s (s.lists 8)
          have h3 := HL8.out
          unfold statS at h1
          omega
        clear hI3 HR2
        have HB0 := Lib.hid (show Below w3.heap.size w3 w3 from Below.refl _ _)
        go_upto_region 12 with fail
        have HF0 := Lib.hid (show ((statS s).take 0).foldl (pumS s (k : Int)) (p2, t2) = (p2, t2) from rfl)
        go_loopw [7, 8, 71] (fun p t i wr => ∃ (j : Nat) (p3 t3 : Int), i = .int .i64 ((j : Nat) : Int) ∧ p = .int .i64 p3 ∧ t = .int .i64 t3 ∧ j ≤ n3 ∧ Hid (((statS s).take j).foldl (pumS s (k : Int)) (p2, t2) = (p3, t3)) ∧ Hid (Below w3.heap.size w3 wr)) (fun _ _ i _ => n3 - (intOf i).toNat)
        case atStart => exact ⟨0, _, _, rfl, rfl, rfl, by omega, HF0, HB0⟩
        case round =>
          clear HF0 HB0
          obtain ⟨j, p3, t3, rfl, rfl, rfl, hj, HF, HB⟩ := hrel
          have HBd := Lib.hid (show -3368742079 ≤ p3 ∧ p3 ≤ 3368742079 ∧ -3368742079 ≤ t3 ∧ t3 ≤ 3368742079 from by
            have hbd := pum_bd s (k : Int) 1073742079 ((statS s).take j) (p2, t2) (fun x hx => (stat_ok (List.mem_of_mem_take hx)).2) (by have := HPT2.out.2; dsimp only; omega)
            rw [HF.out] at hbd
            have hlen : ((statS s).take j).length ≤ 9000000 := by rw [List.length_take]; omega
            simp only at hbd
            omega)
          by_cases hlt : j < n3
          · skip
            obtain ⟨x, hx⟩ : ∃ x, (statS s)[j]? = some x := ⟨_, List.getElem?_eq_getElem (by rw [← HN3.out]; exact hlt)⟩
            have HFN := Lib.hid (show ((statS s).take (j + 1)).foldl (pumS s (k : Int)) (p2, t2) = pumS s (k : Int) (p3, t3) x from by rw [List.take_add_one, hx, List.foldl_append, HF.out]; rfl)
            obtain ⟨hm8, hok⟩ := stat_ok (List.mem_of_getElem? hx)
            have HXI := Lib.hid (HIN.out _ hm8)
            obtain ⟨g, ys, hA, hg, hrg, hrd⟩ := HI3.out.at_ hx
            subst hA
            obtain ⟨ce, bs, os, A2, k2, c2, rfl, hbs, hrs⟩ := reads_sub0 hrd hok.1
            obtain ⟨xi, e⟩ := x
            simp only at hm8 hok HXI hrg hrs hrd ⊢
            have hrg2 := range_below HB.out hg hrg
            have hrs2 := range_below HB.out hbs hrs
            have hln : 0 < e.subs.length := List.length_pos_iff.2 hok.1
            have q0 : (0 : Int) ≤ (j : Int) := by omega
            have q1 : (j : Int) < (n3 : Int) := by omega
            have q2 : (0 : Int) < (e.subs.length : Int) := by omega
            have HOK := Lib.hid hok
            have hrs0 := Lib.hid hrs
            clear hrd hx hm8 hrg hrs hok
            have hs6 : (scL xi (evC e.op e.n e.m e.who (some ⟨bs, os, none⟩) e.subs.length ce)).toArray.size = 6 := rfl
            have hs7 : (Tryd.prog.info? 67).map (·.size) = some (scL xi (evC e.op e.n e.m e.who (some ⟨bs, os, none⟩) e.subs.length ce)).toArray.size := sc_size6
            have ho6 : (scL xi (evC e.op e.n e.m e.who (some ⟨bs, os, none⟩) e.subs.length ce)).toArray.all (·.oneCell') = true := by simp [scL, evC, Value.oneCell']
            have hnew : (wr.alloc (.cells zeroX 67)).heap[wr.heap.size]? = some (.cells zeroX 67 (0, 0)) := heap_alloc_new _ _
            go_upto_region 14 with (first
              | (refine wpList_load_mid rfl 67 (.tmp 73) rfl g (j * 6) rfl _ _ hrg2 Tryd.underlying67 rfl sc_size6 ?_)
              | (refine wpList_store_row rfl 67 (.tmp 14) (.tmp 74) rfl wr.heap.size _ rfl rfl 67 zeroX hnew hs7 rfl ho6 ?_))
            obtain ⟨w5, hw5, hE5, hb5⟩ := sh_box wr zeroX (scL xi (evC e.op e.n e.m e.who (some ⟨bs, os, none⟩) e.subs.length ce)).toArray 67
            show Code.wp _ _ _ _ ((wr.alloc (.cells zeroX 67)).setRow wr.heap.size (scL xi (evC e.op e.n e.m e.who (some ⟨bs, os, none⟩) e.subs.length ce)).toArray)
            rw [← hw5]
            obtain ⟨g11, hg11⟩ : ∃ g, g = wr.heap.size := ⟨_, rfl⟩
            rw [← hg11] at hE5
            rw [← hg11]
            have HB5 := Lib.hid (keepB hb5 HB.out)
            clear hw5 hnew hs6 hs7 ho6 hrg2 hg11 hrs2 hb5
            have hrs5 := range_below HB5.out hbs hrs0.out
            have cs5a : w5.cell? ⟨g11, 5, none⟩ = some (.slice (some ⟨bs, os, none⟩) e.subs.length ce) := by rw [cell_of_row w5 g11 5 _ _ _ hE5]; rfl
            obtain ⟨f1, hf1⟩ : ∃ x, x = (sub0 e).op := ⟨_, rfl⟩
            obtain ⟨f2, hf2⟩ : ∃ x, x = (sub0 e).n := ⟨_, rfl⟩
            obtain ⟨f3, hf3⟩ : ∃ x, x = (sub0 e).m := ⟨_, rfl⟩
            obtain ⟨f4, hf4⟩ : ∃ x, x = (sub0 e).who := ⟨_, rfl⟩
            rw [← hf1, ← hf2, ← hf3, ← hf4] at hrs5
            have HSub := Lib.hid (And.intro hf1 (And.intro hf2 hf3))
            clear hf1 hf2 hf3 hf4
            have hz5 : (evC f1 f2 f3 f4 A2 k2 c2).size = 5 := rfl
            have hz6 : (Tryd.prog.info? 65).map (·.size) = some (evC f1 f2 f3 f4 A2 k2 c2).size := size5
            have ho5 : (evC f1 f2 f3 f4 A2 k2 c2).all (·.oneCell') = true := by simp [evC, Value.oneCell']
            have hnew : (w5.alloc (.cells zeroF 65)).heap[w5.heap.size]? = some (.cells zeroF 65 (0, 0)) := heap_alloc_new _ _
            go_upto_region 15 with (first
              | (refine load_sub rfl (.tmp 78) rfl bs os rfl _ hz5 hrs5 ?_)
              | (refine wpList_store_row rfl 65 (.tmp 15) (.tmp 79) rfl w5.heap.size _ rfl rfl 65 zeroF hnew hz6 rfl ho5 ?_))
            obtain ⟨w6, hw6, hE6, hb6⟩ := sh_box w5 zeroF (evC f1 f2 f3 f4 A2 k2 c2) 65
            show Code.wp _ _ _ _ ((w5.alloc (.cells zeroF 65)).setRow w5.heap.size (evC f1 f2 f3 f4 A2 k2 c2))
            rw [← hw6]
            obtain ⟨g12, hg12⟩ : ∃ g, g = w5.heap.size := ⟨_, rfl⟩
            rw [← hg12] at hE6
            rw [← hg12]
            have HB6 := Lib.hid (keepB hb6 HB5.out)
            have hE11 : w6.heap[g11]? = some (.cells (scL xi (evC e.op e.n e.m e.who (some ⟨bs, os, none⟩) e.subs.length ce)).toArray 67 (0, 0)) := (hb6.block g11 (Array.getElem?_eq_some_iff.1 hE5).1).trans hE5
            clear hw6 hnew hz5 hz6 ho5 hrs5 hg12 hb6 cs5a hE5
            have c6a : w6.cell? ⟨g12, 0, none⟩ = some (.int .i64 f1) := by rw [cell_of_row w6 g12 0 _ _ _ hE6]; rfl
            by_cases hop : f1 = 10
            · subst hop
              have hs6 := HS1.out.keep (keepB HB6.out HW3.out.1)
              have hxr : w6.heap[g11]? = some (.cells (scC (xi, e) (some ⟨bs, os, none⟩) e.subs.length ce) 67 (0, 0)) := hE11
              have hwi := withinRef_any s O L cs (xi, e) (some ⟨bs, os, none⟩) e.subs.length ce (k : Int) w6 (HR.out.grow (keepB (keepB HB6.out HW3.out.1) HB1.out)) HNO.out HII.out HXI.out
              have hxz : (Tryd.prog.info? 67).map (·.size) = some (scC (xi, e) (some ⟨bs, os, none⟩) e.subs.length ce).size := sc_size6
              clear hE11 HF
              go_wp2_with (first
                | (refine load_wantS (by rfl) (.tmp 2) rfl gs rfl cs hs6 hcs ?_)
                | (refine BigFrame.wpList_want (by rfl) fun _ hK' => wp_load_row 67 (.tmp 14) rfl g11 rfl 67 _ (0, 0) _ hxr Tryd.underlying67 rfl hxz (hK' _ _ ?_)))
              refine hwi.mono ?_
              rintro en w7 ⟨rfl, hb7⟩
              have HB7 := Lib.hid (keepB hb7 HB6.out)
              have c7o : w7.cell? ⟨g12, 0, none⟩ = some (.int .i64 10) := by rw [cell_of_row w7 g12 0 _ _ _ ((hb7.block g12 (Array.getElem?_eq_some_iff.1 hE6).1).trans hE6)]; rfl
              have c7a : w7.cell? ⟨g12, 1, none⟩ = some (.int .i64 f2) := by rw [cell_of_row w7 g12 1 _ _ _ ((hb7.block g12 (Array.getElem?_eq_some_iff.1 hE6).1).trans hE6)]; rfl
              have c7b : w7.cell? ⟨g12, 2, none⟩ = some (.int .i64 f3) := by rw [cell_of_row w7 g12 2 _ _ _ ((hb7.block g12 (Array.getElem?_eq_some_iff.1 hE6).1).trans hE6)]; rfl
              have hl12 : g12 < w7.heap.size := Nat.lt_of_lt_of_le (Array.getElem?_eq_some_iff.1 hE6).1 hb7.size
              clear hwi hs6 hxr hxz hE6 c6a hb7
              obtain ⟨gb, hgb⟩ : ∃ gb, gb = grpB s (xi, e) (k : Int) := ⟨_, rfl⟩
              rw [← hgb]
              cases gb with
              | false =>
                have HF2 := Lib.hid (show ((statS s).take (j + 1)).foldl (pumS s (k : Int)) (p2, t2) = (p3, t3) from by
                  rw [HFN.out]; unfold pumS; rw [if_neg fun h => by rw [← hgb] at h; exact Bool.noConfusion h.2])
                clear hgb HFN c7a c7b c7o
                go_wp2_with fail
                go_roundw
                case rel => exact ⟨j + 1, _, _, by go_num, rfl, rfl, by omega, HF2, HB7⟩
                case measure => simp [intOf]; omega
              | true =>
                have HF2 := Lib.hid (show ((statS s).take (j + 1)).foldl (pumS s (k : Int)) (p2, t2) = (p3 + f2, t3 + f3) from by
                  rw [HFN.out]; unfold pumS; rw [if_pos ⟨HSub.out.1.symm, hgb.symm⟩, HSub.out.2.1, HSub.out.2.2])
                have k1 : ∀ W, Below w7.heap.size w7 W → W.cell? ⟨g12, 1, none⟩ = some (.int .i64 f2) := fun W hW => (World.cell?_of_block (hW.block g12 hl12)).trans c7a
                have k2 : ∀ W, Below w7.heap.size w7 W → W.cell? ⟨g12, 2, none⟩ = some (.int .i64 f3) := fun W hW => (World.cell?_of_block (hW.block g12 hl12)).trans c7b
                obtain ⟨p4, hp4⟩ : ∃ v, v = p3 + f2 := ⟨_, rfl⟩
                obtain ⟨t4, ht4⟩ : ∃ v, v = t3 + f3 := ⟨_, rfl⟩
                have hbf : -100 ≤ f2 ∧ f2 ≤ 255 ∧ -100 ≤ f3 ∧ f3 ≤ 255 := by
                  have h := HOK.out
                  rw [HSub.out.2.1, HSub.out.2.2]
                  exact ⟨h.2.1, h.2.2.1, h.2.2.2.1, h.2.2.2.2.1⟩
                have hwp : IntKind.i64.wrap (p3 + f2) = p4 := by have := HBd.out; rw [hp4]; exact i64_in (by omega) (by omega)
                have hwt : IntKind.i64.wrap (t3 + f3) = t4 := by have := HBd.out; rw [ht4]; exact i64_in (by omega) (by omega)
                rw [← hp4, ← ht4] at HF2
                clear hgb HFN c7a c7b c7o hp4 ht4 hbf
                go_upto_region 16 with fail
                refine region_below (by kernel_rfl) (fun hHeld => ?_)
                refine wpAnyH_take (i := 0) (v := ?_) rfl (by kernel_rfl) (by kernel_rfl) (by kernel_rfl) (fun _ _ _ h => h) (Or.inl ⟨by rfl, ?_⟩) hHeld ?_
                rotate_left
                · (intro w hSw; go_simp; (try with_reducible rfl))
                simp only [Act.put, List.getElem_toArray, List.getElem_cons_zero, List.getElem_cons_succ, List.setIfInBounds_toArray, List.set_cons_zero, List.set_cons_succ]
                refine wpAnyH_take (i := 1) (v := ?_) rfl (by kernel_rfl) (by kernel_rfl) (by kernel_rfl) (fun _ _ _ h => h) (Or.inl ⟨by rfl, ?_⟩) hHeld ?_
                rotate_left
                · (intro w hSw; go_simp; (try with_reducible rfl))
                simp only [Act.put, List.getElem_toArray, List.getElem_cons_zero, List.getElem_cons_succ, List.setIfInBounds_toArray, List.set_cons_zero, List.set_cons_succ]
                refine wpAnyH_take (i := 2) (v := ?_) rfl (by kernel_rfl) (by kernel_rfl) (by kernel_rfl) (fun _ _ _ h => h) (Or.inl ⟨by rfl, ?_⟩) hHeld ?_
                rotate_left
                · (intro w hSw; go_simp; (try with_reducible rfl))
                simp only [Act.put, List.getElem_toArray, List.getElem_cons_zero, List.getElem_cons_succ, List.setIfInBounds_toArray, List.set_cons_zero, List.set_cons_succ]
                refine wpAnyH_take (i := 3) (v := ?_) rfl (by kernel_rfl) (by kernel_rfl) (by kernel_rfl) (fun _ _ _ h => h) (Or.inl ⟨by rfl, ?_⟩) hHeld ?_
                rotate_left
                · (intro w hSw; go_simp; (try with_reducible rfl))
                simp only [Act.put, List.getElem_toArray, List.getElem_cons_zero, List.getElem_cons_succ, List.setIfInBounds_toArray, List.set_cons_zero, List.set_cons_succ]
                refine wpAnyH_take (i := 4) (v := ?_) rfl (by kernel_rfl) (by kernel_rfl) (by kernel_rfl) (fun _ _ _ h => h) (Or.inl ⟨by rfl, ?_⟩) hHeld ?_
                rotate_left
                · (intro w hSw; go_simp; (try with_reducible rfl))
                simp only [Act.put, List.getElem_toArray, List.getElem_cons_zero, List.getElem_cons_succ, List.setIfInBounds_toArray, List.set_cons_zero, List.set_cons_succ]
                refine wpAnyH_take (i := 5) (v := ?_) rfl (by kernel_rfl) (by kernel_rfl) (by kernel_rfl) (fun _ _ _ h => h) (Or.inl ⟨by rfl, ?_⟩) hHeld ?_
                rotate_left
                · (intro w hSw; go_simp; (try with_reducible rfl))
                simp only [Act.put, List.getElem_toArray, List.getElem_cons_zero, List.getElem_cons_succ, List.setIfInBounds_toArray, List.set_cons_zero, List.set_cons_succ]
                refine wpAnyH_take (i := 6) (v := ?_) rfl (by kernel_rfl) (by kernel_rfl) (by kernel_rfl) (fun _ _ _ h => h) (Or.inl ⟨by rfl, ?_⟩) hHeld ?_
                rotate_left
                · (intro w hSw; go_simp; (try with_reducible rfl))
                simp only [Act.put, List.getElem_toArray, List.getElem_cons_zero, List.getElem_cons_succ, List.setIfInBounds_toArray, List.set_cons_zero, List.set_cons_succ]
                refine wpAnyH_take (i := 7) (v := ?_) rfl (by kernel_rfl) (by kernel_rfl) (by kernel_rfl) (fun _ _ _ h => h) (Or.inl ⟨by rfl, ?_⟩) hHeld ?_
                rotate_left
                · (intro w hSw; go_simp; (try with_reducible rfl))
                simp only [Act.put, List.getElem_toArray, List.getElem_cons_zero, List.getElem_cons_succ, List.setIfInBounds_toArray, List.set_cons_zero, List.set_cons_succ]
                refine wpAnyH_take (i := 8) (v := ?_) rfl (by kernel_rfl) (by kernel_rfl) (by kernel_rfl) (fun _ _ _ h => h) (Or.inl ⟨by rfl, ?_⟩) hHeld ?_
                rotate_left
                · (intro w hSw; go_simp; (try with_reducible rfl))
                simp only [Act.put, List.getElem_toArray, List.getElem_cons_zero, List.getElem_cons_succ, List.setIfInBounds_toArray, List.set_cons_zero, List.set_cons_succ]
                refine wpAnyH_take (i := 9) (v := ?_) rfl (by kernel_rfl) (by kernel_rfl) (by kernel_rfl) (fun _ _ _ h => h) (Or.inl ⟨by rfl, ?_⟩) hHeld ?_
                rotate_left
                · (intro w hSw; go_simp; (try with_reducible rfl))
                simp only [Act.put, List.getElem_toArray, List.getElem_cons_zero, List.getElem_cons_succ, List.setIfInBounds_toArray, List.set_cons_zero, List.set_cons_succ]
                refine wpAnyH_done (by kernel_rfl) ?_ _
                have HB8 := Lib.hid (keepB hHeld HB7.out)
                clear k1 k2 hHeld hwp hwt
                go_wp2_with fail
                go_roundw
                case rel => exact ⟨j + 1, _, _, by go_num, rfl, rfl, by omega, HF2, HB8⟩
                case measure => simp [intOf]; omega
            · have d24 : (f1 == 10) = false := by simp [hop]
              have HF2 := Lib.hid (show ((statS s).take (j + 1)).foldl (pumS s (k : Int)) (p2, t2) = (p3, t3) from by
                rw [HFN.out]; unfold pumS; rw [if_neg fun h => hop (HSub.out.1.trans h.1)])
              clear hop hE11 HF HFN
              go_wp2_with fail
              go_roundw
              case rel => exact ⟨j + 1, _, _, by go_num, rfl, rfl, by omega, HF2, HB6⟩
              case measure => simp [intOf]; omega
          · obtain rfl : j = n3 := by omega
            have hE : (statS s).foldl (pumS s (k : Int)) (p2, t2) = (p3, t3) := by
              have h := HF.out
              rw [List.take_of_length_le (by rw [← HN3.out]; exact Nat.le_refl _)] at h
              exact h
            have HE2 := Lib.hid hE
            have hW4 := keepB HB.out HW3.out.1
            have hA64 := ArrAt.keep HW3.out.2 HB.out
            have k8 : ∀ W, Below wr.heap.size wr W → W.cell? ⟨g6, 8, none⟩ = some (.int .i64 (o 8)) := fun W hW => ArrAt.cell (ArrAt.keep hA64 hW) (by omega)
            have k9 : ∀ W, Below wr.heap.size wr W → W.cell? ⟨g6, 9, none⟩ = some (.int .i64 (o 9)) := fun W hW => ArrAt.cell (ArrAt.keep hA64 hW) (by omega)
            obtain ⟨v8, hv8⟩ : ∃ v, v = o 8 := ⟨_, rfl⟩
            obtain ⟨v9, hv9⟩ : ∃ v, v = o 9 := ⟨_, rfl⟩
            have hvb : -1073741824 ≤ v8 ∧ v8 ≤ 1073741824 ∧ -1073741824 ≤ v9 ∧ v9 ≤ 1073741824 := by
              have h := HOB.out
              rw [HOS.out] at h
              rw [hv8, hv9]; exact ⟨h.2.2.1, h.2.2.2.1, h.2.2.2.2.1, h.2.2.2.2.2.1⟩
            rw [← hv8] at k8
            rw [← hv9] at k9
            have HW4 := Lib.hid (And.intro hW4 hA64)
            obtain ⟨p5, hp5⟩ : ∃ v, v = p3 + v8 := ⟨_, rfl⟩
            obtain ⟨t5, ht5⟩ : ∃ v, v = t3 + v9 := ⟨_, rfl⟩
            have hwp : IntKind.i64.wrap (p3 + v8) = p5 := by have := HBd.out; rw [hp5]; exact i64_in (by omega) (by omega)
            have hwt : IntKind.i64.wrap (t3 + v9) = t5 := by have := HBd.out; rw [ht5]; exact i64_in (by omega) (by omega)
            have HPT5 := Lib.hid (show p5 = p3 + o 8 ∧ t5 = t3 + o 9 from ⟨by rw [hp5, hv8], by rw [ht5, hv9]⟩)
            clear hE HF hW4 hA64 hv8 hv9 hp5 ht5 hvb hlt hj HN3 hn3 HI3 HB HW3 HBd
            go_upto_region 18 with fail
            refine region_below (by kernel_rfl) (fun hHeld => ?_)
            refine wpAnyH_take (i := 0) (v := ?_) rfl (by kernel_rfl) (by kernel_rfl) (by kernel_rfl) (fun _ _ _ h => h) (Or.inl ⟨by rfl, ?_⟩) hHeld ?_
            rotate_left
            · (intro w hSw; go_simp; (try with_reducible rfl))
            simp only [Act.put, List.getElem_toArray, List.getElem_cons_zero, List.getElem_cons_succ, List.setIfInBounds_toArray, List.set_cons_zero, List.set_cons_succ]
            refine wpAnyH_take (i := 1) (v := ?_) rfl (by kernel_rfl) (by kernel_rfl) (by kernel_rfl) (fun _ _ _ h => h) (Or.inl ⟨by rfl, ?_⟩) hHeld ?_
            rotate_left
            · (intro w hSw; go_simp; (try with_reducible rfl))
            simp only [Act.put, List.getElem_toArray, List.getElem_cons_zero, List.getElem_cons_succ, List.setIfInBounds_toArray, List.set_cons_zero, List.set_cons_succ]
            refine wpAnyH_take (i := 2) (v := ?_) rfl (by kernel_rfl) (by kernel_rfl) (by kernel_rfl) (fun _ _ _ h => h) (Or.inl ⟨by rfl, ?_⟩) hHeld ?_
            rotate_left
            · (intro w hSw; go_simp; (try with_reducible rfl))
            simp only [Act.put, List.getElem_toArray, List.getElem_cons_zero, List.getElem_cons_succ, List.setIfInBounds_toArray, List.set_cons_zero, List.set_cons_succ]
            refine wpAnyH_take (i := 3) (v := ?_) rfl (by kernel_rfl) (by kernel_rfl) (by kernel_rfl) (fun _ _ _ h => h) (Or.inl ⟨by rfl, ?_⟩) hHeld ?_
            rotate_left
            · (intro w hSw; go_simp; (try with_reducible rfl))
            simp only [Act.put, List.getElem_toArray, List.getElem_cons_zero, List.getElem_cons_succ, List.setIfInBounds_toArray, List.set_cons_zero, List.set_cons_succ]
            refine wpAnyH_take (i := 4) (v := ?_) rfl (by kernel_rfl) (by kernel_rfl) (by kernel_rfl) (fun _ _ _ h => h) (Or.inl ⟨by rfl, ?_⟩) hHeld ?_
            rotate_left
            · (intro w hSw; go_simp; (try with_reducible rfl))
            simp only [Act.put, List.getElem_toArray, List.getElem_cons_zero, List.getElem_cons_succ, List.setIfInBounds_toArray, List.set_cons_zero, List.set_cons_succ]
            refine wpAnyH_take (i := 5) (v := ?_) rfl (by kernel_rfl) (by kernel_rfl) (by kernel_rfl) (fun _ _ _ h => h) (Or.inl ⟨by rfl, ?_⟩) hHeld ?_
            rotate_left
            · (intro w hSw; go_simp; (try with_reducible rfl))
            simp only [Act.put, List.getElem_toArray, List.getElem_cons_zero, List.getElem_cons_succ, List.setIfInBounds_toArray, List.set_cons_zero, List.set_cons_succ]
            refine wpAnyH_take (i := 6) (v := ?_) rfl (by kernel_rfl) (by kernel_rfl) (by kernel_rfl) (fun _ _ _ h => h) (Or.inl ⟨by rfl, ?_⟩) hHeld ?_
            rotate_left
            · (intro w hSw; go_simp; (try with_reducible rfl))
            simp only [Act.put, List.getElem_toArray, List.getElem_cons_zero, List.getElem_cons_succ, List.setIfInBounds_toArray, List.set_cons_zero, List.set_cons_succ]
            refine wpAnyH_take (i := 7) (v := ?_) rfl (by kernel_rfl) (by kernel_rfl) (by kernel_rfl) (fun _ _ _ h => h) (Or.inl ⟨by rfl, ?_⟩) hHeld ?_
            rotate_left
            · (intro w hSw; go_simp; (try with_reducible rfl))
            simp only [Act.put, List.getElem_toArray, List.getElem_cons_zero, List.getElem_cons_succ, List.setIfInBounds_toArray, List.set_cons_zero, List.set_cons_succ]
            refine wpAnyH_take (i := 8) (v := ?_) rfl (by kernel_rfl) (by kernel_rfl) (by kernel_rfl) (fun _ _ _ h => h) (Or.inl ⟨by rfl, ?_⟩) hHeld ?_
            rotate_left
            · (intro w hSw; go_simp; (try with_reducible rfl))
            simp only [Act.put, List.getElem_toArray, List.getElem_cons_zero, List.getElem_cons_succ, List.setIfInBounds_toArray, List.set_cons_zero, List.set_cons_succ]
            refine wpAnyH_take (i := 9) (v := ?_) rfl (by kernel_rfl) (by kernel_rfl) (by kernel_rfl) (fun _ _ _ h => h) (Or.inl ⟨by rfl, ?_⟩) hHeld ?_
            rotate_left
            · (intro w hSw; go_simp; (try with_reducible rfl))
            simp only [Act.put, List.getElem_toArray, List.getElem_cons_zero, List.getElem_cons_succ, List.setIfInBounds_toArray, List.set_cons_zero, List.set_cons_succ]
            refine wpAnyH_done (by kernel_rfl) ?_ _
            have HR2 := Lib.hid (show Below w1.heap.size w1 wr.drew ∧ ArrAt .i64 18 37 wr.drew g6 o from ⟨keepB hHeld HW4.out.1, ArrAt.keep HW4.out.2 hHeld⟩)
            clear k8 k9 hHeld HW4 hwp hwt
            generalize wr.drew = w2 at HR2 ⊢
            have hs2 := HS1.out.keep HR2.out.1
            have hst := staticsRef_any s O L cs w2 (HR.out.grow (keepB HR2.out.1 HB1.out)) HL8.out HIN.out
            go_upto_region 20 with (refine load_wantS (by rfl) (.tmp 2) rfl gs rfl cs hs2 hcs ?_)
            refine hst.mono ?_
            rintro en w3 ⟨A3, n3, c3, rfl, hc3, hI3⟩
            clear hst hs2
            have HW3 := Lib.hid (show Below w1.heap.size w1 w3 ∧ ArrAt .i64 18 37 w3 g6 o from ⟨keepB hI3.b HR2.out.1, ArrAt.keep HR2.out.2 hI3.b⟩)
            have HI3 := Lib.hid hI3
            have HN3 := Lib.hid hI3.n_
            have hn3 : n3 ≤ 9000000 := by
              have h1 := HN3.out
              have h2 := statL_len s (s.lists 8)
              have h3 := HL8.out
              unfold statS at h1
              omega
            clear hI3 HR2
            have HB0 := Lib.hid (show Below w3.heap.size w3 w3 from Below.refl _ _)
            go_upto_region 20 with fail
            have HF0 := Lib.hid (show ((statS s).take 0).foldl (wordS s (k : Int)) sy = sy from rfl)
            go_loopw [9, 109] (fun v i wr => ∃ (j u : Nat), i = .int .i64 ((j : Nat) : Int) ∧ v = .int .u64 ((u : Nat) : Int) ∧ j ≤ n3 ∧ Hid (((statS s).take j).foldl (wordS s (k : Int)) sy = u) ∧ Hid (Below w3.heap.size w3 wr)) (fun _ i _ => n3 - (intOf i).toNat)
            case atStart => exact ⟨0, _, rfl, rfl, by omega, HF0, HB0⟩
            case round =>
              clear HF0 HB0
              obtain ⟨j, u, rfl, rfl, hj, HF, HB⟩ := hrel
              have HU := Lib.hid (show u < 256 from by rw [← HF.out]; exact word_256 s _ _ _ (by omega))
              by_cases hlt : j < n3
              · skip
                obtain ⟨x, hx⟩ : ∃ x, (statS s)[j]? = some x := ⟨_, List.getElem?_eq_getElem (by rw [← HN3.out]; exact hlt)⟩
                have HFN := Lib.hid (show ((statS s).take (j + 1)).foldl (wordS s (k : Int)) sy = wordS s (k : Int) u x from by rw [List.take_add_one, hx, List.foldl_append, HF.out]; rfl)
                obtain ⟨hm8, hok⟩ := stat_ok (List.mem_of_getElem? hx)
                have HXI := Lib.hid (HIN.out _ hm8)
                obtain ⟨g, ys, hA, hg, hrg, hrd⟩ := HI3.out.at_ hx
                subst hA
                obtain ⟨ce, bs, os, A2, k2, c2, rfl, hbs, hrs⟩ := reads_sub0 hrd hok.1
                obtain ⟨xi, e⟩ := x
                simp only at hm8 hok HXI hrg hrs hrd ⊢
                have hrg2 := range_below HB.out hg hrg
                have hrs2 := range_below HB.out hbs hrs
                have hln : 0 < e.subs.length := List.length_pos_iff.2 hok.1
                have q0 : (0 : Int) ≤ (j : Int) := by omega
                have q1 : (j : Int) < (n3 : Int) := by omega
                have q2 : (0 : Int) < (e.subs.length : Int) := by omega
                have HOK := Lib.hid hok
                have hrs0 := Lib.hid hrs
                clear hrd hx hm8 hrg hrs hok
                have hs6 : (scL xi (evC e.op e.n e.m e.who (some ⟨bs, os, none⟩) e.subs.length ce)).toArray.size = 6 := rfl
                have hs7 : (Tryd.prog.info? 67).map (·.size) = some (scL xi (evC e.op e.n e.m e.who (some ⟨bs, os, none⟩) e.subs.length ce)).toArray.size := sc_size6
                have ho6 : (scL xi (evC e.op e.n e.m e.who (some ⟨bs, os, none⟩) e.subs.length ce)).toArray.all (·.oneCell') = true := by simp [scL, evC, Value.oneCell']
                have hnew : (wr.alloc (.cells zeroX 67)).heap[wr.heap.size]? = some (.cells zeroX 67 (0, 0)) := heap_alloc_new _ _
                go_upto_region 22 with (first
                  | (refine wpList_load_mid rfl 67 (.tmp 111) rfl g (j * 6) rfl _ _ hrg2 Tryd.underlying67 rfl sc_size6 ?_)
                  | (refine wpList_store_row rfl 67 (.tmp 17) (.tmp 112) rfl wr.heap.size _ rfl rfl 67 zeroX hnew hs7 rfl ho6 ?_))
                obtain ⟨w5, hw5, hE5, hb5⟩ := sh_box wr zeroX (scL xi (evC e.op e.n e.m e.who (some ⟨bs, os, none⟩) e.subs.length ce)).toArray 67
                show Code.wp _ _ _ _ ((wr.alloc (.cells zeroX 67)).setRow wr.heap.size (scL xi (evC e.op e.n e.m e.who (some ⟨bs, os, none⟩) e.subs.length ce)).toArray)
                rw [← hw5]
                obtain ⟨g11, hg11⟩ : ∃ g, g = wr.heap.size := ⟨_, rfl⟩
                rw [← hg11] at hE5
                rw [← hg11]
                have HB5 := Lib.hid (keepB hb5 HB.out)
                clear hw5 hnew hs6 hs7 ho6 hrg2 hg11 hrs2 hb5
                have hrs5 := range_below HB5.out hbs hrs0.out
                have cs5a : w5.cell? ⟨g11, 5, none⟩ = some (.slice (some ⟨bs, os, none⟩) e.subs.length ce) := by rw [cell_of_row w5 g11 5 _ _ _ hE5]; rfl
                obtain ⟨f1, hf1⟩ : ∃ x, x = (sub0 e).op := ⟨_, rfl⟩
                obtain ⟨f2, hf2⟩ : ∃ x, x = (sub0 e).n := ⟨_, rfl⟩
                obtain ⟨f3, hf3⟩ : ∃ x, x = (sub0 e).m := ⟨_, rfl⟩
                obtain ⟨f4, hf4⟩ : ∃ x, x = (sub0 e).who := ⟨_, rfl⟩
                rw [← hf1, ← hf2, ← hf3, ← hf4] at hrs5
                have HSub := Lib.hid (And.intro hf1 (And.intro hf2 hf3))
                clear hf1 hf2 hf3 hf4
                have hz5 : (evC f1 f2 f3 f4 A2 k2 c2).size = 5 := rfl
                have hz6 : (Tryd.prog.info? 65).map (·.size) = some (evC f1 f2 f3 f4 A2 k2 c2).size := size5
                have ho5 : (evC f1 f2 f3 f4 A2 k2 c2).all (·.oneCell') = true := by simp [evC, Value.oneCell']
                have hnew : (w5.alloc (.cells zeroF 65)).heap[w5.heap.size]? = some (.cells zeroF 65 (0, 0)) := heap_alloc_new _ _
                go_upto_region 23 with (first
                  | (refine load_sub rfl (.tmp 116) rfl bs os rfl _ hz5 hrs5 ?_)
                  | (refine wpList_store_row rfl 65 (.tmp 18) (.tmp 117) rfl w5.heap.size _ rfl rfl 65 zeroF hnew hz6 rfl ho5 ?_))
                obtain ⟨w6, hw6, hE6, hb6⟩ := sh_box w5 zeroF (evC f1 f2 f3 f4 A2 k2 c2) 65
                show Code.wp _ _ _ _ ((w5.alloc (.cells zeroF 65)).setRow w5.heap.size (evC f1 f2 f3 f4 A2 k2 c2))
                rw [← hw6]
                obtain ⟨g12, hg12⟩ : ∃ g, g = w5.heap.size := ⟨_, rfl⟩
                rw [← hg12] at hE6
                rw [← hg12]
                have HB6 := Lib.hid (keepB hb6 HB5.out)
                have hE11 : w6.heap[g11]? = some (.cells (scL xi (evC e.op e.n e.m e.who (some ⟨bs, os, none⟩) e.subs.length ce)).toArray 67 (0, 0)) := (hb6.block g11 (Array.getElem?_eq_some_iff.1 hE5).1).trans hE5
                clear hw6 hnew hz5 hz6 ho5 hrs5 hg12 hb6 cs5a hE5
                have c6a : w6.cell? ⟨g12, 0, none⟩ = some (.int .i64 f1) := by rw [cell_of_row w6 g12 0 _ _ _ hE6]; rfl
                by_cases h23 : f1 = 23
                · subst h23
                  have hs6 := HS1.out.keep (keepB HB6.out HW3.out.1)
                  have hxr : w6.heap[g11]? = some (.cells (scC (xi, e) (some ⟨bs, os, none⟩) e.subs.length ce) 67 (0, 0)) := hE11
                  have hwi := withinRef_any s O L cs (xi, e) (some ⟨bs, os, none⟩) e.subs.length ce (k : Int) w6 (HR.out.grow (keepB (keepB HB6.out HW3.out.1) HB1.out)) HNO.out HII.out HXI.out
                  have hxz : (Tryd.prog.info? 67).map (·.size) = some (scC (xi, e) (some ⟨bs, os, none⟩) e.subs.length ce).size := sc_size6
                  clear hE11 HF
                  go_wp2_with (first
                    | (refine load_wantS (by rfl) (.tmp 2) rfl gs rfl cs hs6 hcs ?_)
                    | (refine BigFrame.wpList_want (by rfl) fun _ hK' => wp_load_row 67 (.tmp 17) rfl g11 rfl 67 _ (0, 0) _ hxr Tryd.underlying67 rfl hxz (hK' _ _ ?_)))
                  refine hwi.mono ?_
                  rintro en w7 ⟨rfl, hb7⟩
                  have HB7 := Lib.hid (keepB hb7 HB6.out)
                  have c7o : w7.cell? ⟨g12, 0, none⟩ = some (.int .i64 23) := by rw [cell_of_row w7 g12 0 _ _ _ ((hb7.block g12 (Array.getElem?_eq_some_iff.1 hE6).1).trans hE6)]; rfl
                  have c7a : w7.cell? ⟨g12, 1, none⟩ = some (.int .i64 f2) := by rw [cell_of_row w7 g12 1 _ _ _ ((hb7.block g12 (Array.getElem?_eq_some_iff.1 hE6).1).trans hE6)]; rfl
                  have c7b : w7.cell? ⟨g12, 2, none⟩ = some (.int .i64 f3) := by rw [cell_of_row w7 g12 2 _ _ _ ((hb7.block g12 (Array.getElem?_eq_some_iff.1 hE6).1).trans hE6)]; rfl
                  have hl12 : g12 < w7.heap.size := Nat.lt_of_lt_of_le (Array.getElem?_eq_some_iff.1 hE6).1 hb7.size
                  clear hwi hs6 hxr hxz hE6 c6a hb7
                  obtain ⟨gb, hgb⟩ : ∃ gb, gb = grpB s (xi, e) (k : Int) := ⟨_, rfl⟩
                  rw [← hgb]
                  cases gb with
                  | false =>
                    have HF2 := Lib.hid (show ((statS s).take (j + 1)).foldl (wordS s (k : Int)) sy = u from by
                      rw [HFN.out]; unfold wordS; rw [if_neg fun h => by rw [← hgb] at h; exact Bool.noConfusion h.2])
                    clear hgb HFN c7a c7b c7o
                    go_wp2_with fail
                    go_roundw
                    case rel => exact ⟨j + 1, _, by go_num, rfl, by omega, HF2, HB7⟩
                    case measure => simp [intOf]; omega
                  | true =>
                    obtain ⟨m, hm, hm9⟩ : ∃ m : Nat, f2 = (m : Int) ∧ m ≤ 255 := by
                      have h := HOK.out
                      have h1 := h.2.2.2.2.2 (.inl HSub.out.1.symm)
                      have h2 := h.2.2.1
                      rw [← HSub.out.2.1] at h1 h2
                      exact ⟨f2.toNat, by omega, by omega⟩
                    have HF2 := Lib.hid (show ((statS s).take (j + 1)).foldl (wordS s (k : Int)) sy = turnW u m true 8 from by
                      rw [HFN.out]; unfold wordS
                      rw [if_pos ⟨.inl (HSub.out.1.symm), hgb.symm⟩, show decide ((sub0 e).op = 23) = true from decide_eq_true HSub.out.1.symm, ← HSub.out.2.1, hm, Int.toNat_natCast])
                    rw [hm] at c7a
                    have htu := turned_any u (by have := HU.out; omega) (m : Int) m (by rw [IntKind.wrap_u64]; omega) (by omega) true w7
                    clear hgb HFN c7b hm hm9
                    go_wp2_with fail
                    refine htu.mono ?_
                    rintro en w8 ⟨rfl, hb8⟩
                    have HB8 := Lib.hid (keepB hb8 HB7.out)
                    clear htu hb8 c7a c7o
                    go_wp2_with fail
                    go_roundw
                    case rel => exact ⟨j + 1, _, by go_num, rfl, by omega, HF2, HB8⟩
                    case measure => simp [intOf]; omega
                by_cases h25 : f1 = 25
                · subst h25
                  have hs6 := HS1.out.keep (keepB HB6.out HW3.out.1)
                  have hxr : w6.heap[g11]? = some (.cells (scC (xi, e) (some ⟨bs, os, none⟩) e.subs.length ce) 67 (0, 0)) := hE11
                  have hwi := withinRef_any s O L cs (xi, e) (some ⟨bs, os, none⟩) e.subs.length ce (k : Int) w6 (HR.out.grow (keepB (keepB HB6.out HW3.out.1) HB1.out)) HNO.out HII.out HXI.out
                  have hxz : (Tryd.prog.info? 67).map (·.size) = some (scC (xi, e) (some ⟨bs, os, none⟩) e.subs.length ce).size := sc_size6
                  clear hE11 HF
                  go_wp2_with (first
                    | (refine load_wantS (by rfl) (.tmp 2) rfl gs rfl cs hs6 hcs ?_)
                    | (refine BigFrame.wpList_want (by rfl) fun _ hK' => wp_load_row 67 (.tmp 17) rfl g11 rfl 67 _ (0, 0) _ hxr Tryd.underlying67 rfl hxz (hK' _ _ ?_)))
                  refine hwi.mono ?_
                  rintro en w7 ⟨rfl, hb7⟩
                  have HB7 := Lib.hid (keepB hb7 HB6.out)
                  have c7o : w7.cell? ⟨g12, 0, none⟩ = some (.int .i64 25) := by rw [cell_of_row w7 g12 0 _ _ _ ((hb7.block g12 (Array.getElem?_eq_some_iff.1 hE6).1).trans hE6)]; rfl
                  have c7a : w7.cell? ⟨g12, 1, none⟩ = some (.int .i64 f2) := by rw [cell_of_row w7 g12 1 _ _ _ ((hb7.block g12 (Array.getElem?_eq_some_iff.1 hE6).1).trans hE6)]; rfl
                  have c7b : w7.cell? ⟨g12, 2, none⟩ = some (.int .i64 f3) := by rw [cell_of_row w7 g12 2 _ _ _ ((hb7.block g12 (Array.getElem?_eq_some_iff.1 hE6).1).trans hE6)]; rfl
                  have hl12 : g12 < w7.heap.size := Nat.lt_of_lt_of_le (Array.getElem?_eq_some_iff.1 hE6).1 hb7.size
                  clear hwi hs6 hxr hxz hE6 c6a hb7
                  obtain ⟨gb, hgb⟩ : ∃ gb, gb = grpB s (xi, e) (k : Int) := ⟨_, rfl⟩
                  rw [← hgb]
                  cases gb with
                  | false =>
                    have HF2 := Lib.hid (show ((statS s).take (j + 1)).foldl (wordS s (k : Int)) sy = u from by
                      rw [HFN.out]; unfold wordS; rw [if_neg fun h => by rw [← hgb] at h; exact Bool.noConfusion h.2])
                    clear hgb HFN c7a c7b c7o
                    go_wp2_with fail
                    go_roundw
                    case rel => exact ⟨j + 1, _, by go_num, rfl, by omega, HF2, HB7⟩
                    case measure => simp [intOf]; omega
                  | true =>
                    obtain ⟨m, hm, hm9⟩ : ∃ m : Nat, f2 = (m : Int) ∧ m ≤ 255 := by
                      have h := HOK.out
                      have h1 := h.2.2.2.2.2 (.inr HSub.out.1.symm)
                      have h2 := h.2.2.1
                      rw [← HSub.out.2.1] at h1 h2
                      exact ⟨f2.toNat, by omega, by omega⟩
                    have HF2 := Lib.hid (show ((statS s).take (j + 1)).foldl (wordS s (k : Int)) sy = turnW u m false 8 from by
                      rw [HFN.out]; unfold wordS
                      rw [if_pos ⟨.inr (HSub.out.1.symm), hgb.symm⟩, show decide ((sub0 e).op = 23) = false from decide_eq_false (fun h => by have h2 := HSub.out.1; omega), ← HSub.out.2.1, hm, Int.toNat_natCast])
                    rw [hm] at c7a
                    have htu := turned_any u (by have := HU.out; omega) (m : Int) m (by rw [IntKind.wrap_u64]; omega) (by omega) false w7
                    clear hgb HFN c7b hm hm9
                    go_wp2_with fail
                    refine htu.mono ?_
                    rintro en w8 ⟨rfl, hb8⟩
                    have HB8 := Lib.hid (keepB hb8 HB7.out)
                    clear htu hb8 c7a c7o
                    go_wp2_with fail
                    go_roundw
                    case rel => exact ⟨j + 1, _, by go_num, rfl, by omega, HF2, HB8⟩
                    case measure => simp [intOf]; omega
                · have d23 : (f1 == 23) = false := by simp [h23]
                  have d25 : (f1 == 25) = false := by simp [h25]
                  have HF2 := Lib.hid (show ((statS s).take (j + 1)).foldl (wordS s (k : Int)) sy = u from by
                    rw [HFN.out]; unfold wordS; rw [if_neg fun h => h.1.elim (fun h => h23 (HSub.out.1.trans h)) fun h => h25 (HSub.out.1.trans h)])
                  clear h23 h25 hE11 HF HFN
                  go_wp2_with fail
                  go_roundw
                  case rel => exact ⟨j + 1, _, by go_num, rfl, by omega, HF2, HB6⟩
                  case measure => simp [intOf]; omega
              · obtain rfl : j = n3 := by omega
                have hE : (statS s).foldl (wordS s (k : Int)) sy = u := by
                  have h := HF.out
                  rw [List.take_of_length_le (by rw [← HN3.out]; exact Nat.le_refl _)] at h
                  exact h
                have HE3 := Lib.hid hE
                have hW4 := keepB HB.out HW3.out.1
                have hA64 := ArrAt.keep HW3.out.2 HB.out
                have c10 := hA64.cell (i := 10) (by omega)
                obtain ⟨m, hm, hm9⟩ : ∃ m : Nat, o 10 = (m : Int) ∧ m ≤ 255 := by
                  have h := HOB.out
                  rw [HOS.out] at h
                  exact ⟨(o 10).toNat, by omega, by omega⟩
                rw [hm] at c10
                have HM := Lib.hid hm
                have hpw := (hW4.block gp (Array.getElem?_eq_some_iff.1 HP1.out).1).trans HP1.out
                have HW4 := Lib.hid hW4
                clear hE HF hW4 hA64 hm hlt hj HN3 hn3 HI3 HB HW3
                have htu := turned_any u (by have := HU.out; omega) (m : Int) m (by rw [IntKind.wrap_u64]; omega) (by omega) true wr
                obtain ⟨u2, hu2⟩ : ∃ v, v = turnW u m true 8 := ⟨_, rfl⟩
                have hu256 : u2 < 256 := by rw [hu2]; exact turnW_256 HU.out (Nat.le_refl _)
                rw [← hu2] at htu
                have HU2 := Lib.hid hu2
                clear hu2
                go_wp2_with fail
                refine htu.mono ?_
                rintro en w8 ⟨rfl, hb8⟩
                have hp8 := (hb8.block gp (Array.getElem?_eq_some_iff.1 hpw).1).trans hpw
                have hcv : IntKind.i64.wrap (u2 : Int) = (u2 : Int) := by rw [IntKind.wrap_i64]; omega
                have HB8 := Lib.hid (keepB hb8 (keepB HW4.out HB1.out))
                have hres : #[Value.int .i64 p5, Value.int .i64 t5, Value.int .i64 (u2 : Int)] = shV (ofS s (k : Int)) := by
                  have e1 := HE1.out
                  have e2 := HE2.out
                  have e3 := HE3.out
                  unfold shV ofS
                  rw [← HY.out, ← HPT.out.1, ← HPT.out.2, e1]
                  simp only
                  rw [HOS.out, ← HV7.out, ← HPT2.out.1.1, ← HPT2.out.1.2, e2]
                  simp only
                  rw [← HPT5.out.1, ← HPT5.out.2, hsy, Int.toNat_natCast, e3, HM.out, Int.toNat_natCast, ← HU2.out]
                have HRes := Lib.hid hres
                clear htu hb8 hpw c10 hres
                go_wp2_with (refine wpList_store_row rfl 34 (.tmp 4) (.tmp 148) rfl gp _ rfl rfl 34 _ hp8 (by kernel_rfl) rfl (by simp [Value.oneCell']) ?_)
                have hwp : w.heap.size ≤ gp := by have := HG.out; omega
                rw [HRes.out]
                refine bodyPost_ret (v := .agg (shV (ofS s (k : Int)))) ?_ rfl ⟨rfl, below_setRow HB8.out gp _ hwp⟩
                exact results_cell_row (ty := 34) (p := 4) (by kernel_rfl) _ _ gp 34 _ (0, 0) _ rfl (setRow_heap _ _ _ _ _ _ hp8) Tryd.underlying34 rfl (by kernel_rfl)
  refine wp_region_held_drew (S := fun W => Below w1.heap.size w1 W) (by kernel_rfl) (Below.refl _ _).drew (fun hHeld => ?_)
  refine wpAnyH_take (i := 0) (v := .agg cs) rfl (by kernel_rfl) (by kernel_rfl) (by kernel_rfl) (fun _ _ _ h => h) (yields_st (by rfl) (.tmp 2) rfl gs rfl cs hcs (fun W hW => HS1.out.keep hW)) hHeld ?_
  simp only [Act.put, List.getElem_toArray, List.getElem_cons_zero, List.getElem_cons_succ, List.setIfInBounds_toArray, List.set_cons_zero, List.set_cons_succ]
  refine wpAnyH_take (i := 1) (v := ?_) rfl (by kernel_rfl) (by kernel_rfl) (by kernel_rfl) (fun _ _ _ h => h) (Or.inl ⟨by rfl, ?_⟩) hHeld ?_
  rotate_left
  · (intro w hSw; go_simp; (try with_reducible rfl))
  simp only [Act.put, List.getElem_toArray, List.getElem_cons_zero, List.getElem_cons_succ, List.setIfInBounds_toArray, List.set_cons_zero, List.set_cons_succ]
  refine wpAnyH_take (i := 3) (v := ?_) rfl (by kernel_rfl) (by kernel_rfl) (by kernel_rfl) (fun _ _ _ h => h) (Or.inl ⟨by rfl, ?_⟩) hHeld ?_
  rotate_left
  · (intro w hSw; go_simp; (try with_reducible rfl))
  simp only [Act.put, List.getElem_toArray, List.getElem_cons_zero, List.getElem_cons_succ, List.setIfInBounds_toArray, List.set_cons_zero, List.set_cons_succ]
  refine wpAnyH_take (i := 4) (v := ?_) rfl (by kernel_rfl) (by kernel_rfl) (by kernel_rfl) (fun _ _ _ h => h) (Or.inl ⟨by rfl, ?_⟩) hHeld ?_
  rotate_left
  · (intro w hSw; go_simp; (try with_reducible rfl))
  simp only [Act.put, List.getElem_toArray, List.getElem_cons_zero, List.getElem_cons_succ, List.setIfInBounds_toArray, List.set_cons_zero, List.set_cons_succ]
  refine wpAnyH_take (i := 5) (v := ?_) rfl (by kernel_rfl) (by kernel_rfl) (by kernel_rfl) (fun _ _ _ h => h) (Or.inl ⟨by rfl, ?_⟩) hHeld ?_
  rotate_left
  · (intro w hSw; go_simp; (try with_reducible rfl))
  simp only [Act.put, List.getElem_toArray, List.getElem_cons_zero, List.getElem_cons_succ, List.setIfInBounds_toArray, List.set_cons_zero, List.set_cons_succ]
  refine wpAnyH_take (i := 6) (v := ?_) rfl (by kernel_rfl) (by kernel_rfl) (by kernel_rfl) (fun _ _ _ h => h) (Or.inl ⟨by rfl, ?_⟩) hHeld ?_
  rotate_left
  · (intro w hSw; go_simp; (try with_reducible rfl))
  simp only [Act.put, List.getElem_toArray, List.getElem_cons_zero, List.getElem_cons_succ, List.setIfInBounds_toArray, List.set_cons_zero, List.set_cons_succ]
  refine wpAnyH_take (i := 7) (v := .agg (arr .i64 18 o)) rfl (by kernel_rfl) (by kernel_rfl) (by kernel_rfl) (fun _ _ _ h => h) (yields_obj (by rfl) (.tmp 25) rfl b (off + k * 18) rfl o (fun W hW => range_below hW hl1 hra1)) hHeld ?_
  simp only [Act.put, List.getElem_toArray, List.getElem_cons_zero, List.getElem_cons_succ, List.setIfInBounds_toArray, List.set_cons_zero, List.set_cons_succ]
  generalize w1.drew = W0 at hHeld ⊢
  refine wpAnyH_ready (rs := [2, 8, 9]) (by kernel_rfl) (by simp) ?_
  refine AllReadyH.cons rfl (fun K hK => ?_) (AllReadyH.cons rfl (fun K hK => ?_) (AllReadyH.cons rfl (fun K hK => ?_) AllReadyH.nil))
  all_goals simp only [List.getElem_toArray, List.getElem_cons_zero, List.getElem_cons_succ]
  all_goals go_simp
  · skip
    refine (HCD.out W0 hHeld).mono ?_
    rintro en Wc ⟨cs5, rfl, hq5, hb5⟩
    go_wp2_with fail
    have h13 := cq_size hq5
    have hone := cq_one hq5
    have HC5 := Lib.hid (show ∃ A k cc, cs5 = cardC y A k cc from by obtain ⟨_, _, _, _, _, _, A, cc, e, _⟩ := hq5; exact ⟨A, _, cc, e⟩)
    clear hq5
    try replace hA5 := CdAt.keep hA5 hb5
    try replace hA6 := ArrAt.keep hA6 hb5
    have hHeld := keepB hb5 hHeld
    clear hb5
    refine hK.out _ _ hHeld (fun _ => ?_)
    clear hK K
    try simp only [Act.put, List.setIfInBounds_toArray, List.set_cons_zero, List.set_cons_succ]
    refine wpAnyH_ready (rs := [8, 9]) (by kernel_rfl) (by simp) ?_
    refine AllReadyH.cons rfl (fun K hK => ?_) (AllReadyH.cons rfl (fun K hK => ?_) AllReadyH.nil)
    all_goals simp only [List.getElem_toArray, List.getElem_cons_zero, List.getElem_cons_succ]
    · skip
      go_simp
      obtain ⟨Wa, hWa⟩ : ∃ W7, W7 = World.alloc Wc (.cells zeroD 55) := ⟨_, rfl⟩
      obtain ⟨g5, hg5⟩ : ∃ g, g = (World.heap Wc).size := ⟨_, rfl⟩
      have hbb : Below (World.heap Wc).size Wc Wa := by rw [hWa]; exact (Below.refl _ _).alloc (Nat.le_refl _) _
      try have hne : g5 ≠ g6 := by have := ArrAt.lt hA6; omega
      try replace hA6 := ArrAt.keep hA6 hbb
      have hA5 : CdAt Wa g5 zeroD := by rw [hWa, hg5]; exact heap_alloc_new _ _
      have hl5 : w1.heap.size ≤ g5 := by rw [hg5]; exact hHeld.size
      have hHeld := keepB hbb hHeld
      rw [← hWa, ← hg5]
      clear hWa hg5 hbb
      refine hK.out _ _ hHeld (fun _ => ?_)
      clear hK K
      try simp only [Act.put, List.setIfInBounds_toArray, List.set_cons_zero, List.set_cons_succ]
      refine wpAnyH_ready (rs := [9]) (by kernel_rfl) (by simp) ?_
      refine AllReadyH.cons rfl (fun K hK => ?_) AllReadyH.nil
      simp only [List.getElem_toArray, List.getElem_cons_zero, List.getElem_cons_succ]
      go_simp
      obtain ⟨Wb, hWb⟩ : ∃ W7, W7 = World.alloc Wa (.cells (arr .i64 18 fun _ => 0) 37) := ⟨_, rfl⟩
      obtain ⟨g6, hg6⟩ : ∃ g, g = (World.heap Wa).size := ⟨_, rfl⟩
      have hbb : Below (World.heap Wa).size Wa Wb := by rw [hWb]; exact (Below.refl _ _).alloc (Nat.le_refl _) _
      try have hne : g5 ≠ g6 := by have := CdAt.lt hA5; omega
      try replace hA5 := CdAt.keep hA5 hbb
      have hA6 : ArrAt .i64 18 37 Wb g6 (fun _ => 0) := by rw [hWb, hg6]; exact heap_alloc_new _ _
      have hl6 : w1.heap.size ≤ g6 := by rw [hg6]; exact hHeld.size
      have hHeld := keepB hbb hHeld
      try rw [sh_zero18]
      rw [← hWb, ← hg6]
      clear hWb hg6 hbb
      refine hK.out _ _ hHeld (fun _ => ?_)
      clear hK K
      try simp only [Act.put, List.setIfInBounds_toArray, List.set_cons_zero, List.set_cons_succ]
      refine wpAnyH_ready (rs := [10]) (by kernel_rfl) (by simp) ?_
      refine AllReadyH.cons rfl (fun K hK => ?_) AllReadyH.nil
      simp only [List.getElem_toArray, List.getElem_cons_zero, List.getElem_cons_succ]
      refine wp_store_row 55 (.tmp 5) (.tmp 21) rfl g5 _ rfl rfl 55 zeroD hA5 (by rw [h13]; exact size13) (by rw [h13]; rfl) hone ?_
      try replace hA6 := ArrAt.farRow hA6 (Ne.symm hne) cs5
      replace hA5 : CdAt (World.setRow Wb g5 cs5) g5 cs5 := setRow_heap _ _ _ _ _ _ hA5
      replace hHeld := below_setRow hHeld g5 cs5 hl5
      generalize World.setRow Wb g5 cs5 = Ws at *
      refine hK.out _ _ hHeld (fun _ => ?_)
      clear hK K
      try simp only [Act.put, List.setIfInBounds_toArray, List.set_cons_zero, List.set_cons_succ]
      refine wpAnyH_ready (rs := [11]) (by kernel_rfl) (by simp) ?_
      refine AllReadyH.cons rfl (fun K hK => ?_) AllReadyH.nil
      simp only [List.getElem_toArray, List.getElem_cons_zero, List.getElem_cons_succ]
      refine wp_store_row 37 (.tmp 6) (.tmp 26) rfl g6 _ rfl rfl 37 (arr .i64 18 fun _ => 0) hA6 (by rw [arr_size]; exact st_size18) (by rw [arr_size, arr_size]) (arr_one .i64 18 o) ?_
      replace hA5 : CdAt (World.setRow Ws g6 (arr .i64 18 o)) g5 cs5 := (setRow_other _ g6 g5 _ hne).trans hA5
      replace hA6 := ArrAt.setRow hA6 o
      replace hHeld := below_setRow hHeld g6 (arr .i64 18 o) hl6
      generalize World.setRow Ws g6 (arr .i64 18 o) = Wt at *
      refine hK.out _ _ hHeld (fun _ => ?_)
      clear hK K
      try simp only [Act.put, List.setIfInBounds_toArray, List.set_cons_zero, List.set_cons_succ]
      refine wpAnyH_done (by kernel_rfl) ?_ _
      go_step
      go_step
      go_meet
      have HR1 := Lib.hid (show Below w1.heap.size w1 Wt ∧ CdAt Wt g5 cs5 ∧ (∃ A k cc, cs5 = cardC y A k cc) ∧ ArrAt .i64 18 37 Wt g6 o from ⟨hHeld, hA5, HC5.out, hA6⟩)
      case rel => exact ⟨g5, g6, cs5, rfl, rfl, HR1⟩
    · skip
      go_simp
      obtain ⟨Wb, hWb⟩ : ∃ W7, W7 = World.alloc Wc (.cells (arr .i64 18 fun _ => 0) 37) := ⟨_, rfl⟩
      obtain ⟨g6, hg6⟩ : ∃ g, g = (World.heap Wc).size := ⟨_, rfl⟩
      have hbb : Below (World.heap Wc).size Wc Wb := by rw [hWb]; exact (Below.refl _ _).alloc (Nat.le_refl _) _
      try have hne : g5 ≠ g6 := by have := CdAt.lt hA5; omega
      try replace hA5 := CdAt.keep hA5 hbb
      have hA6 : ArrAt .i64 18 37 Wb g6 (fun _ => 0) := by rw [hWb, hg6]; exact heap_alloc_new _ _
      have hl6 : w1.heap.size ≤ g6 := by rw [hg6]; exact hHeld.size
      have hHeld := keepB hbb hHeld
      try rw [sh_zero18]
      rw [← hWb, ← hg6]
      clear hWb hg6 hbb
      refine hK.out _ _ hHeld (fun _ => ?_)
      clear hK K
      try simp only [Act.put, List.setIfInBounds_toArray, List.set_cons_zero, List.set_cons_succ]
      refine wpAnyH_ready (rs := [8]) (by kernel_rfl) (by simp) ?_
      refine AllReadyH.cons rfl (fun K hK => ?_) AllReadyH.nil
      simp only [List.getElem_toArray, List.getElem_cons_zero, List.getElem_cons_succ]
      go_simp
      obtain ⟨Wa, hWa⟩ : ∃ W7, W7 = World.alloc Wb (.cells zeroD 55) := ⟨_, rfl⟩
      obtain ⟨g5, hg5⟩ : ∃ g, g = (World.heap Wb).size := ⟨_, rfl⟩
      have hbb : Below (World.heap Wb).size Wb Wa := by rw [hWa]; exact (Below.refl _ _).alloc (Nat.le_refl _) _
      try have hne : g5 ≠ g6 := by have := ArrAt.lt hA6; omega
      try replace hA6 := ArrAt.keep hA6 hbb
      have hA5 : CdAt Wa g5 zeroD := by rw [hWa, hg5]; exact heap_alloc_new _ _
      have hl5 : w1.heap.size ≤ g5 := by rw [hg5]; exact hHeld.size
      have hHeld := keepB hbb hHeld
      rw [← hWa, ← hg5]
      clear hWa hg5 hbb
      refine hK.out _ _ hHeld (fun _ => ?_)
      clear hK K
      try simp only [Act.put, List.setIfInBounds_toArray, List.set_cons_zero, List.set_cons_succ]
      refine wpAnyH_ready (rs := [10]) (by kernel_rfl) (by simp) ?_
      refine AllReadyH.cons rfl (fun K hK => ?_) AllReadyH.nil
      simp only [List.getElem_toArray, List.getElem_cons_zero, List.getElem_cons_succ]
      refine wp_store_row 55 (.tmp 5) (.tmp 21) rfl g5 _ rfl rfl 55 zeroD hA5 (by rw [h13]; exact size13) (by rw [h13]; rfl) hone ?_
      try replace hA6 := ArrAt.farRow hA6 (Ne.symm hne) cs5
      replace hA5 : CdAt (World.setRow Wa g5 cs5) g5 cs5 := setRow_heap _ _ _ _ _ _ hA5
      replace hHeld := below_setRow hHeld g5 cs5 hl5
      generalize World.setRow Wa g5 cs5 = Ws at *
      refine hK.out _ _ hHeld (fun _ => ?_)
      clear hK K
      try simp only [Act.put, List.setIfInBounds_toArray, List.set_cons_zero, List.set_cons_succ]
      refine wpAnyH_ready (rs := [11]) (by kernel_rfl) (by simp) ?_
      refine AllReadyH.cons rfl (fun K hK => ?_) AllReadyH.nil
      simp only [List.getElem_toArray, List.getElem_cons_zero, List.getElem_cons_succ]
      refine wp_store_row 37 (.tmp 6) (.tmp 26) rfl g6 _ rfl rfl 37 (arr .i64 18 fun _ => 0) hA6 (by rw [arr_size]; exact st_size18) (by rw [arr_size, arr_size]) (arr_one .i64 18 o) ?_
      replace hA5 : CdAt (World.setRow Ws g6 (arr .i64 18 o)) g5 cs5 := (setRow_other _ g6 g5 _ hne).trans hA5
      replace hA6 := ArrAt.setRow hA6 o
      replace hHeld := below_setRow hHeld g6 (arr .i64 18 o) hl6
      generalize World.setRow Ws g6 (arr .i64 18 o) = Wt at *
      refine hK.out _ _ hHeld (fun _ => ?_)
      clear hK K
      try simp only [Act.put, List.setIfInBounds_toArray, List.set_cons_zero, List.set_cons_succ]
      refine wpAnyH_done (by kernel_rfl) ?_ _
      go_step
      go_step
      go_meet
      have HR1 := Lib.hid (show Below w1.heap.size w1 Wt ∧ CdAt Wt g5 cs5 ∧ (∃ A k cc, cs5 = cardC y A k cc) ∧ ArrAt .i64 18 37 Wt g6 o from ⟨hHeld, hA5, HC5.out, hA6⟩)
      case rel => exact ⟨g5, g6, cs5, rfl, rfl, HR1⟩
  · skip
    obtain ⟨Wa, hWa⟩ : ∃ W7, W7 = World.alloc W0 (.cells zeroD 55) := ⟨_, rfl⟩
    obtain ⟨g5, hg5⟩ : ∃ g, g = (World.heap W0).size := ⟨_, rfl⟩
    have hbb : Below (World.heap W0).size W0 Wa := by rw [hWa]; exact (Below.refl _ _).alloc (Nat.le_refl _) _
    try have hne : g5 ≠ g6 := by have := ArrAt.lt hA6; omega
    try replace hA6 := ArrAt.keep hA6 hbb
    have hA5 : CdAt Wa g5 zeroD := by rw [hWa, hg5]; exact heap_alloc_new _ _
    have hl5 : w1.heap.size ≤ g5 := by rw [hg5]; exact hHeld.size
    have hHeld := keepB hbb hHeld
    rw [← hWa, ← hg5]
    clear hWa hg5 hbb
    refine hK.out _ _ hHeld (fun _ => ?_)
    clear hK K
    try simp only [Act.put, List.setIfInBounds_toArray, List.set_cons_zero, List.set_cons_succ]
    refine wpAnyH_ready (rs := [2, 9]) (by kernel_rfl) (by simp) ?_
    refine AllReadyH.cons rfl (fun K hK => ?_) (AllReadyH.cons rfl (fun K hK => ?_) AllReadyH.nil)
    all_goals simp only [List.getElem_toArray, List.getElem_cons_zero, List.getElem_cons_succ]
    · skip
      go_simp
      refine (HCD.out Wa hHeld).mono ?_
      rintro en Wc ⟨cs5, rfl, hq5, hb5⟩
      go_wp2_with fail
      have h13 := cq_size hq5
      have hone := cq_one hq5
      have HC5 := Lib.hid (show ∃ A k cc, cs5 = cardC y A k cc from by obtain ⟨_, _, _, _, _, _, A, cc, e, _⟩ := hq5; exact ⟨A, _, cc, e⟩)
      clear hq5
      try replace hA5 := CdAt.keep hA5 hb5
      try replace hA6 := ArrAt.keep hA6 hb5
      have hHeld := keepB hb5 hHeld
      clear hb5
      refine hK.out _ _ hHeld (fun _ => ?_)
      clear hK K
      try simp only [Act.put, List.setIfInBounds_toArray, List.set_cons_zero, List.set_cons_succ]
      refine wpAnyH_ready (rs := [9]) (by kernel_rfl) (by simp) ?_
      refine AllReadyH.cons rfl (fun K hK => ?_) AllReadyH.nil
      simp only [List.getElem_toArray, List.getElem_cons_zero, List.getElem_cons_succ]
      go_simp
      obtain ⟨Wb, hWb⟩ : ∃ W7, W7 = World.alloc Wc (.cells (arr .i64 18 fun _ => 0) 37) := ⟨_, rfl⟩
      obtain ⟨g6, hg6⟩ : ∃ g, g = (World.heap Wc).size := ⟨_, rfl⟩
      have hbb : Below (World.heap Wc).size Wc Wb := by rw [hWb]; exact (Below.refl _ _).alloc (Nat.le_refl _) _
      try have hne : g5 ≠ g6 := by have := CdAt.lt hA5; omega
      try replace hA5 := CdAt.keep hA5 hbb
      have hA6 : ArrAt .i64 18 37 Wb g6 (fun _ => 0) := by rw [hWb, hg6]; exact heap_alloc_new _ _
      have hl6 : w1.heap.size ≤ g6 := by rw [hg6]; exact hHeld.size
      have hHeld := keepB hbb hHeld
      try rw [sh_zero18]
      rw [← hWb, ← hg6]
      clear hWb hg6 hbb
      refine hK.out _ _ hHeld (fun _ => ?_)
      clear hK K
      try simp only [Act.put, List.setIfInBounds_toArray, List.set_cons_zero, List.set_cons_succ]
      refine wpAnyH_ready (rs := [10]) (by kernel_rfl) (by simp) ?_
      refine AllReadyH.cons rfl (fun K hK => ?_) AllReadyH.nil
      simp only [List.getElem_toArray, List.getElem_cons_zero, List.getElem_cons_succ]
      refine wp_store_row 55 (.tmp 5) (.tmp 21) rfl g5 _ rfl rfl 55 zeroD hA5 (by rw [h13]; exact size13) (by rw [h13]; rfl) hone ?_
      try replace hA6 := ArrAt.farRow hA6 (Ne.symm hne) cs5
      replace hA5 : CdAt (World.setRow Wb g5 cs5) g5 cs5 := setRow_heap _ _ _ _ _ _ hA5
      replace hHeld := below_setRow hHeld g5 cs5 hl5
      generalize World.setRow Wb g5 cs5 = Ws at *
      refine hK.out _ _ hHeld (fun _ => ?_)
      clear hK K
      try simp only [Act.put, List.setIfInBounds_toArray, List.set_cons_zero, List.set_cons_succ]
      refine wpAnyH_ready (rs := [11]) (by kernel_rfl) (by simp) ?_
      refine AllReadyH.cons rfl (fun K hK => ?_) AllReadyH.nil
      simp only [List.getElem_toArray, List.getElem_cons_zero, List.getElem_cons_succ]
      refine wp_store_row 37 (.tmp 6) (.tmp 26) rfl g6 _ rfl rfl 37 (arr .i64 18 fun _ => 0) hA6 (by rw [arr_size]; exact st_size18) (by rw [arr_size, arr_size]) (arr_one .i64 18 o) ?_
      replace hA5 : CdAt (World.setRow Ws g6 (arr .i64 18 o)) g5 cs5 := (setRow_other _ g6 g5 _ hne).trans hA5
      replace hA6 := ArrAt.setRow hA6 o
      replace hHeld := below_setRow hHeld g6 (arr .i64 18 o) hl6
      generalize World.setRow Ws g6 (arr .i64 18 o) = Wt at *
      refine hK.out _ _ hHeld (fun _ => ?_)
      clear hK K
      try simp only [Act.put, List.setIfInBounds_toArray, List.set_cons_zero, List.set_cons_succ]
      refine wpAnyH_done (by kernel_rfl) ?_ _
      go_step
      go_step
      go_meet
      have HR1 := Lib.hid (show Below w1.heap.size w1 Wt ∧ CdAt Wt g5 cs5 ∧ (∃ A k cc, cs5 = cardC y A k cc) ∧ ArrAt .i64 18 37 Wt g6 o from ⟨hHeld, hA5, HC5.out, hA6⟩)
      case rel => exact ⟨g5, g6, cs5, rfl, rfl, HR1⟩
    · skip
      go_simp
      obtain ⟨Wb, hWb⟩ : ∃ W7, W7 = World.alloc Wa (.cells (arr .i64 18 fun _ => 0) 37) := ⟨_, rfl⟩
      obtain ⟨g6, hg6⟩ : ∃ g, g = (World.heap Wa).size := ⟨_, rfl⟩
      have hbb : Below (World.heap Wa).size Wa Wb := by rw [hWb]; exact (Below.refl _ _).alloc (Nat.le_refl _) _
      try have hne : g5 ≠ g6 := by have := CdAt.lt hA5; omega
      try replace hA5 := CdAt.keep hA5 hbb
      have hA6 : ArrAt .i64 18 37 Wb g6 (fun _ => 0) := by rw [hWb, hg6]; exact heap_alloc_new _ _
      have hl6 : w1.heap.size ≤ g6 := by rw [hg6]; exact hHeld.size
      have hHeld := keepB hbb hHeld
      try rw [sh_zero18]
      rw [← hWb, ← hg6]
      clear hWb hg6 hbb
      refine hK.out _ _ hHeld (fun _ => ?_)
      clear hK K
      try simp only [Act.put, List.setIfInBounds_toArray, List.set_cons_zero, List.set_cons_succ]
      refine wpAnyH_ready (rs := [2]) (by kernel_rfl) (by simp) ?_
      refine AllReadyH.cons rfl (fun K hK => ?_) AllReadyH.nil
      simp only [List.getElem_toArray, List.getElem_cons_zero, List.getElem_cons_succ]
      go_simp
      refine (HCD.out Wb hHeld).mono ?_
      rintro en Wc ⟨cs5, rfl, hq5, hb5⟩
      go_wp2_with fail
      have h13 := cq_size hq5
      have hone := cq_one hq5
      have HC5 := Lib.hid (show ∃ A k cc, cs5 = cardC y A k cc from by obtain ⟨_, _, _, _, _, _, A, cc, e, _⟩ := hq5; exact ⟨A, _, cc, e⟩)
      clear hq5
      try replace hA5 := CdAt.keep hA5 hb5
      try replace hA6 := ArrAt.keep hA6 hb5
      have hHeld := keepB hb5 hHeld
      clear hb5
      refine hK.out _ _ hHeld (fun _ => ?_)
      clear hK K
      try simp only [Act.put, List.setIfInBounds_toArray, List.set_cons_zero, List.set_cons_succ]
      refine wpAnyH_ready (rs := [10]) (by kernel_rfl) (by simp) ?_
      refine AllReadyH.cons rfl (fun K hK => ?_) AllReadyH.nil
      simp only [List.getElem_toArray, List.getElem_cons_zero, List.getElem_cons_succ]
      refine wp_store_row 55 (.tmp 5) (.tmp 21) rfl g5 _ rfl rfl 55 zeroD hA5 (by rw [h13]; exact size13) (by rw [h13]; rfl) hone ?_
      try replace hA6 := ArrAt.farRow hA6 (Ne.symm hne) cs5
      replace hA5 : CdAt (World.setRow Wc g5 cs5) g5 cs5 := setRow_heap _ _ _ _ _ _ hA5
      replace hHeld := below_setRow hHeld g5 cs5 hl5
      generalize World.setRow Wc g5 cs5 = Ws at *
      refine hK.out _ _ hHeld (fun _ => ?_)
      clear hK K
      try simp only [Act.put, List.setIfInBounds_toArray, List.set_cons_zero, List.set_cons_succ]
      refine wpAnyH_ready (rs := [11]) (by kernel_rfl) (by simp) ?_
      refine AllReadyH.cons rfl (fun K hK => ?_) AllReadyH.nil
      simp only [List.getElem_toArray, List.getElem_cons_zero, List.getElem_cons_succ]
      refine wp_store_row 37 (.tmp 6) (.tmp 26) rfl g6 _ rfl rfl 37 (arr .i64 18 fun _ => 0) hA6 (by rw [arr_size]; exact st_size18) (by rw [arr_size, arr_size]) (arr_one .i64 18 o) ?_
      replace hA5 : CdAt (World.setRow Ws g6 (arr .i64 18 o)) g5 cs5 := (setRow_other _ g6 g5 _ hne).trans hA5
      replace hA6 := ArrAt.setRow hA6 o
      replace hHeld := below_setRow hHeld g6 (arr .i64 18 o) hl6
      generalize World.setRow Ws g6 (arr .i64 18 o) = Wt at *
      refine hK.out _ _ hHeld (fun _ => ?_)
      clear hK K
      try simp only [Act.put, List.setIfInBounds_toArray, List.set_cons_zero, List.set_cons_succ]
      refine wpAnyH_done (by kernel_rfl) ?_ _
      go_step
      go_step
      go_meet
      have HR1 := Lib.hid (show Below w1.heap.size w1 Wt ∧ CdAt Wt g5 cs5 ∧ (∃ A k cc, cs5 = cardC y A k cc) ∧ ArrAt .i64 18 37 Wt g6 o from ⟨hHeld, hA5, HC5.out, hA6⟩)
      case rel => exact ⟨g5, g6, cs5, rfl, rfl, HR1⟩
  · skip
    obtain ⟨Wb, hWb⟩ : ∃ W7, W7 = World.alloc W0 (.cells (arr .i64 18 fun _ => 0) 37) := ⟨_, rfl⟩
    obtain ⟨g6, hg6⟩ : ∃ g, g = (World.heap W0).size := ⟨_, rfl⟩
    have hbb : Below (World.heap W0).size W0 Wb := by rw [hWb]; exact (Below.refl _ _).alloc (Nat.le_refl _) _
    try have hne : g5 ≠ g6 := by have := CdAt.lt hA5; omega
    try replace hA5 := CdAt.keep hA5 hbb
    have hA6 : ArrAt .i64 18 37 Wb g6 (fun _ => 0) := by rw [hWb, hg6]; exact heap_alloc_new _ _
    have hl6 : w1.heap.size ≤ g6 := by rw [hg6]; exact hHeld.size
    have hHeld := keepB hbb hHeld
    try rw [sh_zero18]
    rw [← hWb, ← hg6]
    clear hWb hg6 hbb
    refine hK.out _ _ hHeld (fun _ => ?_)
    clear hK K
    try simp only [Act.put, List.setIfInBounds_toArray, List.set_cons_zero, List.set_cons_succ]
    refine wpAnyH_ready (rs := [2, 8]) (by kernel_rfl) (by simp) ?_
    refine AllReadyH.cons rfl (fun K hK => ?_) (AllReadyH.cons rfl (fun K hK => ?_) AllReadyH.nil)
    all_goals simp only [List.getElem_toArray, List.getElem_cons_zero, List.getElem_cons_succ]
    · skip
      go_simp
      refine (HCD.out Wb hHeld).mono ?_
      rintro en Wc ⟨cs5, rfl, hq5, hb5⟩
      go_wp2_with fail
      have h13 := cq_size hq5
      have hone := cq_one hq5
      have HC5 := Lib.hid (show ∃ A k cc, cs5 = cardC y A k cc from by obtain ⟨_, _, _, _, _, _, A, cc, e, _⟩ := hq5; exact ⟨A, _, cc, e⟩)
      clear hq5
      try replace hA5 := CdAt.keep hA5 hb5
      try replace hA6 := ArrAt.keep hA6 hb5
      have hHeld := keepB hb5 hHeld
      clear hb5
      refine hK.out _ _ hHeld (fun _ => ?_)
      clear hK K
      try simp only [Act.put, List.setIfInBounds_toArray, List.set_cons_zero, List.set_cons_succ]
      refine wpAnyH_ready (rs := [8]) (by kernel_rfl) (by simp) ?_
      refine AllReadyH.cons rfl (fun K hK => ?_) AllReadyH.nil
      simp only [List.getElem_toArray, List.getElem_cons_zero, List.getElem_cons_succ]
      go_simp
      obtain ⟨Wa, hWa⟩ : ∃ W7, W7 = World.alloc Wc (.cells zeroD 55) := ⟨_, rfl⟩
      obtain ⟨g5, hg5⟩ : ∃ g, g = (World.heap Wc).size := ⟨_, rfl⟩
      have hbb : Below (World.heap Wc).size Wc Wa := by rw [hWa]; exact (Below.refl _ _).alloc (Nat.le_refl _) _
      try have hne : g5 ≠ g6 := by have := ArrAt.lt hA6; omega
      try replace hA6 := ArrAt.keep hA6 hbb
      have hA5 : CdAt Wa g5 zeroD := by rw [hWa, hg5]; exact heap_alloc_new _ _
      have hl5 : w1.heap.size ≤ g5 := by rw [hg5]; exact hHeld.size
      have hHeld := keepB hbb hHeld
      rw [← hWa, ← hg5]
      clear hWa hg5 hbb
      refine hK.out _ _ hHeld (fun _ => ?_)
      clear hK K
      try simp only [Act.put, List.setIfInBounds_toArray, List.set_cons_zero, List.set_cons_succ]
      refine wpAnyH_ready (rs := [10]) (by kernel_rfl) (by simp) ?_
      refine AllReadyH.cons rfl (fun K hK => ?_) AllReadyH.nil
      simp only [List.getElem_toArray, List.getElem_cons_zero, List.getElem_cons_succ]
      refine wp_store_row 55 (.tmp 5) (.tmp 21) rfl g5 _ rfl rfl 55 zeroD hA5 (by rw [h13]; exact size13) (by rw [h13]; rfl) hone ?_
      try replace hA6 := ArrAt.farRow hA6 (Ne.symm hne) cs5
      replace hA5 : CdAt (World.setRow Wa g5 cs5) g5 cs5 := setRow_heap _ _ _ _ _ _ hA5
      replace hHeld := below_setRow hHeld g5 cs5 hl5
      generalize World.setRow Wa g5 cs5 = Ws at *
      refine hK.out _ _ hHeld (fun _ => ?_)
      clear hK K
      try simp only [Act.put, List.setIfInBounds_toArray, List.set_cons_zero, List.set_cons_succ]
      refine wpAnyH_ready (rs := [11]) (by kernel_rfl) (by simp) ?_
      refine AllReadyH.cons rfl (fun K hK => ?_) AllReadyH.nil
      simp only [List.getElem_toArray, List.getElem_cons_zero, List.getElem_cons_succ]
      refine wp_store_row 37 (.tmp 6) (.tmp 26) rfl g6 _ rfl rfl 37 (arr .i64 18 fun _ => 0) hA6 (by rw [arr_size]; exact st_size18) (by rw [arr_size, arr_size]) (arr_one .i64 18 o) ?_
      replace hA5 : CdAt (World.setRow Ws g6 (arr .i64 18 o)) g5 cs5 := (setRow_other _ g6 g5 _ hne).trans hA5
      replace hA6 := ArrAt.setRow hA6 o
      replace hHeld := below_setRow hHeld g6 (arr .i64 18 o) hl6
      generalize World.setRow Ws g6 (arr .i64 18 o) = Wt at *
      refine hK.out _ _ hHeld (fun _ => ?_)
      clear hK K
      try simp only [Act.put, List.setIfInBounds_toArray, List.set_cons_zero, List.set_cons_succ]
      refine wpAnyH_done (by kernel_rfl) ?_ _
      go_step
      go_step
      go_meet
      have HR1 := Lib.hid (show Below w1.heap.size w1 Wt ∧ CdAt Wt g5 cs5 ∧ (∃ A k cc, cs5 = cardC y A k cc) ∧ ArrAt .i64 18 37 Wt g6 o from ⟨hHeld, hA5, HC5.out, hA6⟩)
      case rel => exact ⟨g5, g6, cs5, rfl, rfl, HR1⟩
    · skip
      go_simp
      obtain ⟨Wa, hWa⟩ : ∃ W7, W7 = World.alloc Wb (.cells zeroD 55) := ⟨_, rfl⟩
      obtain ⟨g5, hg5⟩ : ∃ g, g = (World.heap Wb).size := ⟨_, rfl⟩
      have hbb : Below (World.heap Wb).size Wb Wa := by rw [hWa]; exact (Below.refl _ _).alloc (Nat.le_refl _) _
      try have hne : g5 ≠ g6 := by have := ArrAt.lt hA6; omega
      try replace hA6 := ArrAt.keep hA6 hbb
      have hA5 : CdAt Wa g5 zeroD := by rw [hWa, hg5]; exact heap_alloc_new _ _
      have hl5 : w1.heap.size ≤ g5 := by rw [hg5]; exact hHeld.size
      have hHeld := keepB hbb hHeld
      rw [← hWa, ← hg5]
      clear hWa hg5 hbb
      refine hK.out _ _ hHeld (fun _ => ?_)
      clear hK K
      try simp only [Act.put, List.setIfInBounds_toArray, List.set_cons_zero, List.set_cons_succ]
      refine wpAnyH_ready (rs := [2]) (by kernel_rfl) (by simp) ?_
      refine AllReadyH.cons rfl (fun K hK => ?_) AllReadyH.nil
      simp only [List.getElem_toArray, List.getElem_cons_zero, List.getElem_cons_succ]
      go_simp
      refine (HCD.out Wa hHeld).mono ?_
      rintro en Wc ⟨cs5, rfl, hq5, hb5⟩
      go_wp2_with fail
      have h13 := cq_size hq5
      have hone := cq_one hq5
      have HC5 := Lib.hid (show ∃ A k cc, cs5 = cardC y A k cc from by obtain ⟨_, _, _, _, _, _, A, cc, e, _⟩ := hq5; exact ⟨A, _, cc, e⟩)
      clear hq5
      try replace hA5 := CdAt.keep hA5 hb5
      try replace hA6 := ArrAt.keep hA6 hb5
      have hHeld := keepB hb5 hHeld
      clear hb5
      refine hK.out _ _ hHeld (fun _ => ?_)
      clear hK K
      try simp only [Act.put, List.setIfInBounds_toArray, List.set_cons_zero, List.set_cons_succ]
      refine wpAnyH_ready (rs := [10]) (by kernel_rfl) (by simp) ?_
      refine AllReadyH.cons rfl (fun K hK => ?_) AllReadyH.nil
      simp only [List.getElem_toArray, List.getElem_cons_zero, List.getElem_cons_succ]
      refine wp_store_row 55 (.tmp 5) (.tmp 21) rfl g5 _ rfl rfl 55 zeroD hA5 (by rw [h13]; exact size13) (by rw [h13]; rfl) hone ?_
      try replace hA6 := ArrAt.farRow hA6 (Ne.symm hne) cs5
      replace hA5 : CdAt (World.setRow Wc g5 cs5) g5 cs5 := setRow_heap _ _ _ _ _ _ hA5
      replace hHeld := below_setRow hHeld g5 cs5 hl5
      generalize World.setRow Wc g5 cs5 = Ws at *
      refine hK.out _ _ hHeld (fun _ => ?_)
      clear hK K
      try simp only [Act.put, List.setIfInBounds_toArray, List.set_cons_zero, List.set_cons_succ]
      refine wpAnyH_ready (rs := [11]) (by kernel_rfl) (by simp) ?_
      refine AllReadyH.cons rfl (fun K hK => ?_) AllReadyH.nil
      simp only [List.getElem_toArray, List.getElem_cons_zero, List.getElem_cons_succ]
      refine wp_store_row 37 (.tmp 6) (.tmp 26) rfl g6 _ rfl rfl 37 (arr .i64 18 fun _ => 0) hA6 (by rw [arr_size]; exact st_size18) (by rw [arr_size, arr_size]) (arr_one .i64 18 o) ?_
      replace hA5 : CdAt (World.setRow Ws g6 (arr .i64 18 o)) g5 cs5 := (setRow_other _ g6 g5 _ hne).trans hA5
      replace hA6 := ArrAt.setRow hA6 o
      replace hHeld := below_setRow hHeld g6 (arr .i64 18 o) hl6
      generalize World.setRow Ws g6 (arr .i64 18 o) = Wt at *
      refine hK.out _ _ hHeld (fun _ => ?_)
      clear hK K
      try simp only [Act.put, List.setIfInBounds_toArray, List.set_cons_zero, List.set_cons_succ]
      refine wpAnyH_done (by kernel_rfl) ?_ _
      go_step
      go_step
      go_meet
      have HR1 := Lib.hid (show Below w1.heap.size w1 Wt ∧ CdAt Wt g5 cs5 ∧ (∃ A k cc, cs5 = cardC y A k cc) ∧ ArrAt .i64 18 37 Wt g6 o from ⟨hHeld, hA5, HC5.out, hA6⟩)
      case rel => exact ⟨g5, g6, cs5, rfl, rfl, HR1⟩
end Go.Proofs.YtplfblccaeligaaDoor
