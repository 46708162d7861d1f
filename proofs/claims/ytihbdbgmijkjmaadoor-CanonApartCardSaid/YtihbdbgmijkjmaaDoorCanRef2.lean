/- Layer 11: the reference's Bytes. -/
import Derived.Test.YtihbdbgmijkjmaaDoorCanMath3
import Derived.Test.YtihbdbgmijkjmaaDoorCanRef
import Derived.Test.YtihbdbgmijkjmaaDoorWireD
import Derived.Test.YtihbdbgmijkjmaaDoorStLong
import Derived.Test.YtihbdbgmijkjmaaDoorAppG
namespace Go.Proofs.YtihbdbgmijkjmaaDoor
open Go.RowKit Ex Px Wx
attribute [local go_sem] arr_get
set_option maxRecDepth 100000
/-- A state's numbers. -/
def nlL (L : Nat → List Int) (z : Nat) : List Int := (List.range z).flatMap fun i => ((L i).length : Int) :: L i
theorem nlL_succ (L : Nat → List Int) (z : Nat) : nlL L (z + 1) = nlL L z ++ [((L z).length : Int)] ++ L z := by simp [nlL, List.range_succ]
def numsA (s : StT) (k : Nat) : List Int := (s.objs.length : Int) :: (s.objs.take k).flatMap numsO
def numsB (s : StT) (z : Nat) : List Int := numsA s s.objs.length ++ nlL s.lists z
def numsC (s : StT) (p : Nat) : List Int := numsB s 11 ++ (List.range p).map s.pl
def numsD (s : StT) (g : Nat) : List Int := numsC s 18 ++ (List.range g).map s.gm
theorem numsA_succ {s : StT} {k : Nat} (h : k < s.objs.length) : numsA s (k + 1) = numsA s k ++ [sumH s.objs[k] 9] ++ restL s.objs[k] := by
  simp only [numsA, List.take_succ_eq_append_getElem h, List.flatMap_append, List.flatMap_cons, List.flatMap_nil, List.append_nil, numsO, List.cons_append, List.append_assoc, List.nil_append]
theorem numsB_succ (s : StT) (z : Nat) : numsB s (z + 1) = numsB s z ++ [((s.lists z).length : Int)] ++ s.lists z := by simp only [numsB, nlL_succ, List.append_assoc]
theorem restL_take (o : Nat → Int) {j : Nat} (h : j < 9) : (restL o).take (j + 1) = (restL o).take j ++ [restF o j] := by
  rw [List.take_succ_eq_append_getElem (by rw [restL_len]; exact h)]
  simp only [restF, List.getD_eq_getElem?_getD, List.getElem?_eq_getElem (show j < (restL o).length by rw [restL_len]; exact h), Option.getD_some]
theorem numsC_succ (s : StT) (p : Nat) : numsC s (p + 1) = numsC s p ++ [s.pl p] := by simp [numsC, List.range_succ]
theorem numsD_succ (s : StT) (p : Nat) : numsD s (p + 1) = numsD s p ++ [s.gm p] := by simp [numsD, List.range_succ]
theorem flL_nums (L : Nat → List Int) : (nlL L 11).flatMap bts = flL L 0 11 := by
  have : List.range 11 = [0, 1, 2, 3, 4, 5, 6, 7, 8, 9, 10] := rfl
  simp only [nlL, this, flL, lst, List.flatMap_cons, List.flatMap_nil, List.flatMap_append, List.append_nil, List.append_assoc]
theorem bytes_nums (s : StT) : (numsD s 7).flatMap bts = bytesS s := by
  have h : (s.objs.flatMap numsO).flatMap bts = s.objs.flatMap btsO := by rw [List.flatMap_assoc]; rfl
  simp only [numsD, numsC, numsB, numsA, List.take_length, List.flatMap_append, List.flatMap_cons, h, flL_nums, bytesS, numsP, List.append_assoc]
theorem numsA_len (s : StT) {k : Nat} (h : k ≤ s.objs.length) : (numsA s k).length = 1 + 10 * k := by
  have : ∀ l : List (Nat → Int), (l.flatMap numsO).length = 10 * l.length := by
    intro l
    induction l with
    | nil => rfl
    | cons x l ih => rw [List.flatMap_cons, List.length_append, ih, numsO, List.length_cons, restL_len, List.length_cons]; omega
  rw [numsA, List.length_cons, this, List.length_take]; omega
theorem nlL_len (s : StT) (h : ∀ z, z < 11 → (s.lists z).length ≤ 400) : ∀ z, z ≤ 11 → (nlL s.lists z).length ≤ 401 * z
  | 0, _ => by simp [nlL]
  | z + 1, hz => by
    have := nlL_len s h z (by omega)
    have := h z (by omega)
    rw [nlL_succ, List.length_append, List.length_append, List.length_singleton]; omega
theorem nums_i64 {s : StT} (hc : chkS s = 0) (ho : ∀ o ∈ s.objs, ∀ i, i < 18 → i64B (o i)) (hl : ∀ z, z < 11 → ∀ n ∈ s.lists z, i64B n) (hp : ∀ i, i < 18 → i64B (s.pl i)) (hg : ∀ i, i < 7 → i64B (s.gm i)) : ∀ n ∈ numsD s 7, i64B n := by
  obtain ⟨h1, _, h3, _⟩ := chk_ranges hc
  intro n hn
  simp only [numsD, numsC, numsB, numsA, List.take_length, List.mem_append, List.mem_cons, List.mem_flatMap, List.mem_map, List.mem_range, nlL] at hn
  rcases hn with (((rfl | ⟨o, ho2, hno⟩) | ⟨z, hz, hnz⟩) | ⟨i, hi, rfl⟩) | ⟨i, hi, rfl⟩
  · unfold i64B; omega
  · simp only [numsO, List.mem_cons] at hno
    rcases hno with rfl | hno
    · have := head_in (fit_objs hc o ho2); unfold i64B; omega
    · exact restL_i64 (ho o ho2) n hno
  · rcases hnz with rfl | hnz
    · have := zones_list h3 hz; unfold i64B; omega
    · exact hl z hz n hnz
  · exact hp i hi
  · exact hg i hi
/-- What stands while the numbers are laid. -/
structure LW (w : World) (cs : Array Value) (A : Option Addr) (m c : Nat) (acc : List Int) (W : World) : Prop where
  b : Below w.heap.size w W
  s : StAt W w.heap.size cs
  o : Own .i64 3 W (w.heap.size + 1) A m c acc
section
variable {w W W' W1 W3 : World} {cs : Array Value} {A A3 : Option Addr} {m c m3 c3 : Nat} {acc acc3 : List Int}
theorem LW.keep (h : LW w cs A m c acc W) (hb : Below W.heap.size W W') : LW w cs A m c acc W' := ⟨keepB hb h.b, h.s.keep hb, h.o.below hb (Nat.le_refl _)⟩
theorem LW.app (h : LW w cs A m c acc W1) (ho : Own .i64 3 W3 (w.heap.size + 1) A3 m3 c3 acc3) (hg : W1.grownBy W3 (Value.slice A m c).ownBlock) : LW w cs A3 m3 c3 acc3 W3 :=
  ⟨h.b.grown hg (by have := h.b.size; exact this) (fun k hk => by have := h.o.ownLt k hk; omega), (hg.block _ h.s.lt (fun e => by have := h.o.ownLt _ e.symm; omega)).trans h.s, ho⟩
end
/-- And an object's rest, in a box of its own. -/
structure LA (w : World) (cs : Array Value) (A : Option Addr) (m c : Nat) (acc : List Int) (g : Nat) (r : Nat → Int) (W : World) : Prop where
  w : LW w cs A m c acc W
  a : ArrAt .i64 9 25 W g r
  ne : some g ≠ (Value.slice A m c).ownBlock
section
variable {w W W' W1 W3 : World} {cs : Array Value} {A A3 : Option Addr} {m c m3 c3 g : Nat} {acc acc3 : List Int} {r : Nat → Int}
theorem LA.lt (h : LA w cs A m c acc g r W) : g < W.heap.size := (Array.getElem?_eq_some_iff.1 h.a).1
theorem LA.keep (h : LA w cs A m c acc g r W) (hb : Below W.heap.size W W') : LA w cs A m c acc g r W' := ⟨h.w.keep hb, (hb.block g h.lt).trans h.a, h.ne⟩
theorem LA.app (h : LA w cs A m c acc g r W1) (ho : Own .i64 3 W3 (w.heap.size + 1) A3 m3 c3 acc3) (hg : W1.grownBy W3 (Value.slice A m c).ownBlock)
    (hat : (Value.slice A3 m3 c3).ownBlock = (Value.slice A m c).ownBlock ∨ (Value.slice A3 m3 c3).ownBlock = some W1.heap.size) : LA w cs A3 m3 c3 acc3 g r W3 := by
  refine ⟨h.w.app ho hg, (hg.block g h.lt h.ne).trans h.a, ?_⟩
  rcases hat with hat | hat
  · rw [hat]; exact h.ne
  · rw [hat]; intro e; injection e with e; have := h.lt; omega
theorem LW.withBox (h : LW w cs A m c acc W) (hb : Below W.heap.size W W') (ha : ArrAt .i64 9 25 W' W.heap.size r) : LA w cs A m c acc W.heap.size r W' :=
  ⟨h.keep hb, ha, fun e => by
    rcases h.o.2.2 with ⟨hv, _⟩ | ⟨g, cap, cur, hv, _, hg, _⟩
    · rw [hv] at e; cases e
    · rw [hv] at e
      have := (Array.getElem?_eq_some_iff.1 hg).1
      injection e with e
      simp only at e
      omega⟩
end
theorem own_single {k : IntKind} {e : TypeId} (w : World) (v : Int) {base : Nat} (hb : base ≤ w.heap.size) : Own k e (w.alloc (.cells #[.int k v] e)) base (some ⟨w.heap.size, 0, none⟩) 1 1 [v] :=
  ⟨rfl, rfl, .inr ⟨w.heap.size, 1, _, rfl, hb, heap_alloc_new w _, Nat.le_refl _, by unfold maxLen; omega, rfl, rfl⟩⟩
/-- What Bytes answers. -/
def CanB (w : World) (s : StT) (e : Ending) (w' : World) : Prop :=
  ∃ A n c, e = .returned (.tuple #[.slice A n c, .int .i64 (chkS s)]) ∧ Nums .u8 w' w'.heap.size A n (if chkS s = 0 then bytesS s else []) ∧ n ≤ c ∧ Below w.heap.size w w'
set_option linter.unusedSimpArgs false in
set_option maxHeartbeats 0 in
theorem bytesRef11_any (s : StT) (O : SlT) (L : Nat → SlT) (cs : Array Value) (w : World) (h : ReadsS w.heap.size w cs s O L) (hn : s.objs.length ≤ 1000000) (hll : ∀ z < 11, (s.lists z).length ≤ 1000000) :
    Calls Tryd.prog 10 #[.agg cs] w (CanB w s) := by
  have hcsz := h.size
  go_enter Tryd.func10, Tryd.ntmps10
  have hcs := h.cs
  have c0 : cs[0]? = some (.slice O.A O.n O.c) := by rw [hcs]; exact stC_objs _ _ _ _
  have hOn := h.on
  have hOc := h.oc
  have hO := h.o
  have hsz : (Tryd.prog.info? 29).map (·.size) = some cs.size := by rw [h.size]; exact size37
  have H := Lib.hid h
  clear h
  obtain ⟨A, n, c⟩ := O
  simp only at c0 hOn hOc hO
  have HC := Lib.hid hcs
  clear hcs
  subst hOn
  go_upto_region 1 with fail
  have hs0 : StAt (w.alloc (.cells cs 29)) w.heap.size cs := StAt.new _ _
  have hb0 : Below w.heap.size w (w.alloc (.cells cs 29)) := (Below.refl _ _).alloc (Nat.le_refl _) _
  obtain ⟨w1, hw1⟩ : ∃ w1, w1 = w.alloc (.cells cs 29) := ⟨_, rfl⟩
  rw [← hw1] at hs0 hb0 ⊢
  clear hw1
  have c1 := (hs0.cell 0).trans c0
  go_wp2_with (refine wpList_load_row rfl 29 (.tmp 1) rfl w.heap.size rfl 29 _ (0, 0) _ hs0 Tryd.underlying29 rfl hsz ?_)
  refine (st_checkRef_any s _ L cs w1 w1.heap.size (H.out.grow hb0) (Nat.le_refl _) hn hll).mono ?_
  rintro e w2 ⟨rfl, hb2⟩
  have hs2 := hs0.keep hb2
  have hbw2 := keepB hb2 hb0
  clear c1 hs0 hb0
  by_cases hck : chkS s = 0
  case neg =>
    obtain ⟨q, hq⟩ : ∃ q, q = chkS s := ⟨_, rfl⟩
    have HQ := Lib.hid hq
    rw [← hq] at hck ⊢
    have hne : (q != 0) = true := by simpa using hck
    clear hq
    go_wp2_with fail
    go_ret2
    exact ⟨none, 0, 0, by rw [← HQ.out] <;> rfl, by rw [if_neg (by rw [← HQ.out]; exact hck)]; exact Nums.none_, Nat.le_refl _, hbw2⟩
  obtain ⟨h4, _, hzb, _⟩ := chk_ranges hck
  have hl4 : ∀ z, z < 11 → (s.lists z).length ≤ 400 := fun z hz => Nat.le_trans (zones_list hzb hz) h4
  have HCk := Lib.hid hck
  have HF := Lib.hid (fit_objs hck)
  have hI := Lib.hid (nums_i64 hck (fun o ho i hi => H.out.ow o ho i hi) (fun z hz n hn => H.out.lw z hz n hn) (fun i hi => H.out.pw i hi) (fun i hi => H.out.gw i hi))
  rw [hck]
  clear hck hzb
  have c2 := (hs2.cell 0).trans c0
  obtain ⟨i0, hi, hz0, hz1, hz2⟩ := info_parts info_int
  have HW0 := Lib.hid (show LW w cs (some ⟨w2.heap.size, 0, none⟩) 1 1 (numsA s 0) (w2.alloc (.cells #[.int .i64 (s.objs.length : Int)] 3)) from by
    have hb : Below w2.heap.size w2 (w2.alloc (.cells #[.int .i64 (s.objs.length : Int)] 3)) := (Below.refl _ _).alloc (Nat.le_refl _) _
    exact ⟨keepB hb hbw2, hs2.keep hb, own_single w2 _ (by have := hs2.lt; omega)⟩)
  have hlt2 : w.heap.size < w2.heap.size := hs2.lt
  go_upto_region 6 with fail
  have hl1 : (numsA s 0).length = 1 := by rw [numsA_len s (Nat.zero_le _)]
  clear c2 hb2 hs2 hbw2
  go_loopw [5, 31] (fun v i wr => ∃ k A1 m1 c1, i = .int .i64 ((k : Nat) : Int) ∧ v = .slice A1 m1 c1 ∧ k ≤ s.objs.length ∧ Hid (LW w cs A1 m1 c1 (numsA s k) wr)) (fun _ i _ => s.objs.length - (intOf i).toNat)
  case atStart => exact ⟨0, _, 1, 1, rfl, rfl, by omega, HW0⟩
  case round =>
    clear HW0 hl1
    obtain ⟨k, A1, m1, c1, rfl, rfl, hk, HW⟩ := hrel
    by_cases hlt : k < s.objs.length
    · have hbr := HW.out.b
      have hm1 : m1 ≤ 4001 := by have := HW.out.o.len; rw [numsA_len s hk] at this; omega
      obtain ⟨b, off, rfl, hbB, hra⟩ := hO.at_ hlt
      have hra := range_below hbr (by omega) hra
      obtain ⟨x, hx⟩ : ∃ x, x = s.objs[k] := ⟨_, rfl⟩
      rw [← hx] at hra
      have HX := Lib.hid hx
      clear hx
      have hz := st_zero18
      have hnew : (wr.alloc (.cells (arr .i64 18 fun _ => 0) 56)).heap[wr.heap.size]? = some (.cells (arr .i64 18 fun _ => 0) 56 (0, 0)) := heap_alloc_new _ _
      have hsx : (Tryd.prog.info? 56).map (·.size) = some (arr .i64 18 x).size := by rw [arr_size]; exact st_size18
      go_upto_region 8 with (first
        | (refine load_obj rfl (.tmp 33) rfl b (off + k * 18) rfl x hra ?_)
        | (refine wpList_store_row rfl 56 (.tmp 7) (.tmp 34) rfl wr.heap.size _ rfl rfl 56 (arr .i64 18 fun _ => 0) hnew hsx (by rw [arr_size, arr_size]) (arr_one .i64 18 x) ?_))
      obtain ⟨wn, hwn, hEn, hbn⟩ := ob_box wr x
      rw [← hwn]
      have hbrn := keepB hbn hbr
      clear hwn hnew hra hz
      have xs : ∀ i < 18, wn.cell? ⟨wr.heap.size, i, none⟩ = some (.int .i64 (x i)) := fun i hi => by
        have h := cell_of_row wn wr.heap.size i _ _ _ hEn
        rw [arr_get .i64 18 x hi] at h
        exact h
      clear xs
      have HW2 := Lib.hid (HW.out.keep hbn)
      have hsx2 : (Tryd.prog.info? 56).map (·.size) = some (arr .i64 18 x).size := by rw [arr_size]; exact st_size18
      have hfx : Fit x 9 := by rw [HX.out]; exact HF.out _ (List.getElem_mem _)
      have hhx := head_in hfx
      have HFx := Lib.hid hfx
      clear hfx
      obtain ⟨g7, hg7⟩ : ∃ g7, g7 = wr.heap.size := ⟨_, rfl⟩
      rw [← hg7] at hEn
      rw [← hg7]
      clear hg7 hbn hbrn
      go_wp2_with (refine wpList_load_row rfl 56 (.tmp 7) rfl g7 rfl 56 _ (0, 0) _ hEn Tryd.underlying56 rfl hsx2 ?_)
      refine (headRef_any x wn).mono ?_
      rintro e w3 ⟨hhd, hb3⟩
      rcases hhd with ⟨_, rfl⟩ | ⟨hno, _⟩
      case inr => exact absurd HFx.out hno
      have HW3 := Lib.hid (HW2.out.keep hb3)
      have hE3 : ObAt w3 g7 x := (hb3.block g7 (Array.getElem?_eq_some_iff.1 hEn).1).trans hEn
      clear hEn hb3 HW2
      go_wp2_with (refine wpList_load_row rfl 56 (.tmp 7) rfl g7 rfl 56 _ (0, 0) _ hE3 Tryd.underlying56 rfl hsx2 ?_)
      refine (restRef_any x w3).mono ?_
      rintro e w4 ⟨rfl, hb4⟩
      have HW4 := Lib.hid (HW3.out.keep hb4)
      have hz9 := st_zero9
      have hnew : (w4.alloc (.cells (arr .i64 9 fun _ => 0) 25)).heap[w4.heap.size]? = some (.cells (arr .i64 9 fun _ => 0) 25 (0, 0)) := heap_alloc_new _ _
      have hsr : (Tryd.prog.info? 25).map (·.size) = some (arr .i64 9 (restF x)).size := by rw [arr_size]; exact st_size9
      go_upto_region 10 with (refine wpList_store_row rfl 25 (.tmp 10) (.tmp 41) rfl w4.heap.size _ rfl rfl 25 (arr .i64 9 fun _ => 0) hnew hsr (by rw [arr_size, arr_size]) (arr_one .i64 9 (restF x)) ?_)
      obtain ⟨w5, hw5, hA5, hb5⟩ := arr_box 9 25 w4 (restF x)
      rw [← hw5]
      have HA5 := Lib.hid (HW4.out.withBox hb5 hA5)
      have hw4 := HW4.out.s.lt
      obtain ⟨g10, hg10⟩ : ∃ g10, g10 = w4.heap.size := ⟨_, rfl⟩
      rw [← hg10] at HA5
      rw [← hg10]
      have hgl := HA5.out.lt
      have hgw : w.heap.size < w5.heap.size := by omega
      clear hw5 hg10 hb5 hnew hz9 HW4 HW3 hE3 hb4 hA5 hw4
      obtain ⟨hd, hhd⟩ : ∃ hd, hd = sumH x 9 := ⟨_, rfl⟩
      rw [← hhd] at hhx
      rw [← hhd]
      have HHd := Lib.hid hhd
      clear hhd
      obtain ⟨hh0, hh1⟩ := hhx
      have HA6 := Lib.hid (HA5.out.keep (show Below w5.heap.size w5 (w5.alloc (.cells #[.int .i64 hd] 3)) from (Below.refl _ _).alloc (Nat.le_refl _) _))
      go_upto_region 11 with (at_builtin; refine wpList_appG rfl (.tmp 42) (.tmp 45) _ rfl .i64 (w.heap.size + 1) 3 i0 _ 8 Tryd.underlying23 hi hz0 hz1 hz2 rfl A1 m1 c1 (numsA s k) rfl HA6.out.w.o _ (some ⟨w5.heap.size, 0, none⟩) 1 1 [hd] rfl (Nums.one _ _ _ _) (by omega) (by omega) (by simp; omega) ?_; intro A3 c3 w6 ho6 hg6 hat6)
      have HA7 := Lib.hid (HA6.out.app ho6 hg6 hat6)
      clear HA5 HA6 ho6 hg6 hat6
      have hNx := Lib.hid (show numsA s (k + 1) = numsA s k ++ [hd] ++ restL x by rw [numsA_succ hlt, ← HX.out, HHd.out])
      have HA8 := Lib.hid (show LA w cs A3 (m1 + 1) c3 (numsA s k ++ [hd] ++ (restL x).take 0) g10 (restF x) w6 by rw [List.take_zero, List.append_nil]; exact HA7.out)
      obtain ⟨m3, hm3⟩ : ∃ m3, m3 = m1 + 1 := ⟨_, rfl⟩
      rw [← hm3] at HA8
      rw [← hm3]
      have hm3' : m3 ≤ 4002 := by omega
      clear HA7 hm3 hgl hgw hra hm1
      go_upto_region 12 with fail
      go_loopw [5, 11] (fun v i wq => ∃ j A2 m2 c2, i = .int .i64 ((j : Nat) : Int) ∧ v = .slice A2 m2 c2 ∧ j ≤ 9 ∧ m2 ≤ 4002 + j ∧ Hid (LA w cs A2 m2 c2 (numsA s k ++ [hd] ++ (restL x).take j) g10 (restF x) wq)) (fun _ i _ => 9 - (intOf i).toNat)
      case atStart => exact ⟨0, A3, m3, c3, rfl, rfl, by omega, by omega, HA8⟩
      case round =>
        clear HA8 hm3'
        obtain ⟨j, A2, m2, c2, rfl, rfl, hj, hm2, HA⟩ := hrel
        by_cases hj9 : j < 9
        · have hdj : decide ((j : Int) < 9) = true := by simp; omega
          have p0 : (0 : Int) ≤ (j : Int) := by omega
          have p1 : (j : Int) < 9 := by omega
          have hcj := HA.out.a.cell hj9
          have hwq := HA.out.w.s.lt
          have HTk := Lib.hid (restL_take x hj9)
          obtain ⟨y, hy⟩ : ∃ y, y = restF x j := ⟨_, rfl⟩
          rw [← hy] at hcj HTk
          clear hy
          obtain ⟨acc, hacc⟩ : ∃ acc, acc = numsA s k ++ [hd] ++ (restL x).take j := ⟨_, rfl⟩
          rw [← hacc] at HA
          have HAcc := Lib.hid hacc
          clear hacc
          have HA6 := Lib.hid (HA.out.keep (show Below wr.heap.size wr (wr.alloc (.cells #[.int .i64 y] 3)) from (Below.refl _ _).alloc (Nat.le_refl _) _))
          go_wp2_with (at_builtin; refine wpList_appG rfl (.tmp 51) (.tmp 55) _ rfl .i64 (w.heap.size + 1) 3 i0 _ 8 Tryd.underlying23 hi hz0 hz1 hz2 rfl A2 m2 c2 acc rfl HA6.out.w.o _ (some ⟨wr.heap.size, 0, none⟩) 1 1 [y] rfl (Nums.one _ _ _ _) (by omega) (by omega) (by simp; omega) ?_; intro A4 c4 w7 ho6 hg6 hat6)
          have HA7 := Lib.hid (HA6.out.app ho6 hg6 hat6)
          rw [HAcc.out, List.append_assoc, ← HTk.out] at HA7
          clear HA6 ho6 hg6 hat6 hcj
          go_roundw
          case rel => exact ⟨j + 1, _, _, _, by go_num, rfl, by omega, by omega, HA7⟩
          case measure => simp [intOf]; omega
        · obtain rfl : j = 9 := by omega
          have HW9 := Lib.hid (show LW w cs A2 m2 c2 (numsA s (k + 1)) wr by
            have := HA.out.w
            rw [List.take_of_length_le (Nat.le_of_eq (restL_len x)), ← hNx.out] at this
            exact this)
          go_wp2_with fail
          go_roundw
          case rel => exact ⟨k + 1, _, _, _, by go_num, rfl, by omega, HW9⟩
          case measure => simp [intOf]; omega
    · obtain rfl : k = s.objs.length := by omega
      have hm1 : m1 ≤ 4001 := by have := HW.out.o.len; rw [numsA_len s hk] at this; omega
      have HB := Lib.hid (show LW w cs A1 m1 c1 (numsB s 0) wr by
        have : numsB s 0 = numsA s s.objs.length := by simp [numsB, nlL]
        rw [this]; exact HW.out)
      clear HW hlt hlt2
      go_upto_region 17 with fail
      go_loopw [5, 12] (fun v i wq => ∃ z A2 m2 c2, i = .int .i64 ((z : Nat) : Int) ∧ v = .slice A2 m2 c2 ∧ z ≤ 11 ∧ m2 ≤ 4001 + 401 * z ∧ Hid (LW w cs A2 m2 c2 (numsB s z) wq)) (fun _ i _ => 11 - (intOf i).toNat)
      case atStart => exact ⟨0, A1, m1, c1, rfl, rfl, by omega, by omega, HB⟩
      case round =>
        clear HB hm1
        obtain ⟨z, A2, m2, c2, rfl, rfl, hz, hm2, HW⟩ := hrel
        by_cases hz11 : z < 11
        · have hdj : decide ((z : Int) < 11) = true := by simp; omega
          have p0 : (0 : Int) ≤ (z : Int) := by omega
          have p1 : (z : Int) < 11 := by omega
          obtain ⟨A5, n5, c5, hc5, _, hN5⟩ := H.out.at_list hz11
          have hcz := (HW.out.s.cell (1 + z)).trans hc5
          have hn5 : n5 ≤ 400 := by have := hN5.len; have := hl4 z hz11; omega
          have HNx := Lib.hid (show numsB s (z + 1) = numsB s z ++ [(n5 : Int)] ++ s.lists z by rw [numsB_succ, hN5.len])
          have hwq := HW.out.s.lt
          obtain ⟨acc, hacc⟩ : ∃ acc, acc = numsB s z := ⟨_, rfl⟩
          rw [← hacc] at HW HNx
          have HN5 := Lib.hid hN5
          have HC5 := Lib.hid hc5
          clear hc5 hacc hN5
          have HA6 := Lib.hid (HW.out.keep (show Below wr.heap.size wr (wr.alloc (.cells #[.int .i64 (n5 : Int)] 3)) from (Below.refl _ _).alloc (Nat.le_refl _) _))
          go_upto_region 20 with (at_builtin; refine wpList_app rfl (.tmp 62) (.tmp 68) _ rfl .i64 (w.heap.size + 1) 3 i0 _ 8 Tryd.underlying23 hi hz0 hz1 hz2 rfl A2 m2 c2 acc rfl HA6.out.o _ (some ⟨wr.heap.size, 0, none⟩) 1 1 [(n5 : Int)] rfl (Nums.one _ _ _ _) (by omega) (by omega) (by simp; omega) ?_; intro A4 c4 w7 ho6 hg6)
          have HA7 := Lib.hid (HA6.out.app ho6 hg6)
          clear HA6 ho6 hg6 hcz
          obtain ⟨m3, hm3⟩ : ∃ m3, m3 = m2 + 1 := ⟨_, rfl⟩
          rw [← hm3] at HA7
          rw [← hm3]
          have hm3' : m3 ≤ 4002 + 401 * z := by omega
          have HM3 := Lib.hid hm3
          clear hm3
          have hcz := (HA7.out.s.cell (1 + z)).trans HC5.out
          have hN7 := HN5.out.below HA7.out.b
          have hb7 := HA7.out.b.size
          have hw7 := HA7.out.s.lt
          go_wp2_with (at_builtin; refine wpList_app rfl (.tmp 70) (.tmp 74) _ rfl .i64 (w.heap.size + 1) 3 i0 _ 8 Tryd.underlying23 hi hz0 hz1 hz2 rfl A4 m3 c4 _ rfl HA7.out.o w.heap.size A5 n5 c5 (s.lists z) rfl hN7 (by omega) (by omega) (by omega) ?_; intro A6 c6 w8 ho8 hg8)
          have HA8 := Lib.hid (HA7.out.app ho8 hg8)
          rw [← HNx.out] at HA8
          clear HA7 ho8 hg8 hcz hN7
          go_roundw
          case rel => exact ⟨z + 1, _, _, _, by go_num, rfl, by omega, by omega, HA8⟩
          case measure => simp [intOf]; omega
        · obtain rfl : z = 11 := by omega
          rw [show ((11 : Nat) : Int) = 11 from rfl]
          have HC0 := Lib.hid (show LW w cs A2 m2 c2 (numsC s (0 * 9 + 0)) wr by
            have : numsC s (0 * 9 + 0) = numsB s 11 := by simp [numsC]
            rw [this]; exact HW.out)
          clear HW
          go_upto_region 22 with fail
          go_loopw [5, 13] (fun v i wq => ∃ p A3 m3 c3, i = .int .i64 ((p : Nat) : Int) ∧ v = .slice A3 m3 c3 ∧ p ≤ 2 ∧ m3 ≤ 8412 + p * 9 ∧ Hid (LW w cs A3 m3 c3 (numsC s (p * 9 + 0)) wq)) (fun _ i _ => 2 - (intOf i).toNat)
          case atStart => exact ⟨0, A2, m2, c2, rfl, rfl, by omega, by omega, HC0⟩
          case round =>
            clear HC0 hm2
            obtain ⟨p, A3, m3, c3, rfl, rfl, hp, hm3, HW⟩ := hrel
            by_cases hp2 : p < 2
            · have hdp : decide ((p : Int) < 2) = true := by simp; omega
              have p0 : (0 : Int) ≤ (p : Int) := by omega
              have p1 : (p : Int) < 2 := by omega
              go_upto_region 25 with fail
              go_loopw [5, 14] (fun v i wq => ∃ j A4 m4 c4, i = .int .i64 ((j : Nat) : Int) ∧ v = .slice A4 m4 c4 ∧ j ≤ 9 ∧ m4 ≤ 8412 + p * 9 + j ∧ Hid (LW w cs A4 m4 c4 (numsC s (p * 9 + j)) wq)) (fun _ i _ => 9 - (intOf i).toNat)
              case atStart => exact ⟨0, A3, m3, c3, rfl, rfl, by omega, by omega, HW⟩
              case round =>
                clear HW hm3
                obtain ⟨j, A4, m4, c4, rfl, rfl, hj, hm4, HW⟩ := hrel
                by_cases hj9 : j < 9
                · have hdj : decide ((j : Int) < 9) = true := by simp; omega
                  have q0 : (0 : Int) ≤ (j : Int) := by omega
                  have q1 : (j : Int) < 9 := by omega
                  have hcj := HW.out.s.cell (12 + (p * 9 + j))
                  rw [HC.out, stC_pl _ _ _ _ (by omega), ← Nat.add_assoc] at hcj
                  have HNx := Lib.hid (numsC_succ s (p * 9 + j))
                  obtain ⟨y, hy⟩ : ∃ y, y = s.pl (p * 9 + j) := ⟨_, rfl⟩
                  rw [← hy] at hcj HNx
                  obtain ⟨acc, hacc⟩ : ∃ acc, acc = numsC s (p * 9 + j) := ⟨_, rfl⟩
                  rw [← hacc] at HW HNx
                  have hwq := HW.out.s.lt
                  clear hy hacc
                  have HA6 := Lib.hid (HW.out.keep (show Below wr.heap.size wr (wr.alloc (.cells #[.int .i64 y] 3)) from (Below.refl _ _).alloc (Nat.le_refl _) _))
                  go_wp2_with (at_builtin; refine wpList_app rfl (.tmp 84) (.tmp 91) _ rfl .i64 (w.heap.size + 1) 3 i0 _ 8 Tryd.underlying23 hi hz0 hz1 hz2 rfl A4 m4 c4 acc rfl HA6.out.o _ (some ⟨wr.heap.size, 0, none⟩) 1 1 [y] rfl (Nums.one _ _ _ _) (by omega) (by omega) (by simp; omega) ?_; intro A5 c5 w7 ho6 hg6)
                  have HA7 := Lib.hid (HA6.out.app ho6 hg6)
                  rw [← HNx.out, Nat.add_assoc] at HA7
                  clear HA6 ho6 hg6 hcj
                  go_roundw
                  case rel => exact ⟨j + 1, _, _, _, by go_num, rfl, by omega, by omega, HA7⟩
                  case measure => simp [intOf]; omega
                · obtain rfl : j = 9 := by omega
                  have HW9 := Lib.hid (show LW w cs A4 m4 c4 (numsC s ((p + 1) * 9 + 0)) wr by
                    rw [show (p + 1) * 9 + 0 = p * 9 + 9 by omega]; exact HW.out)
                  go_wp2_with fail
                  go_roundw
                  case rel => exact ⟨p + 1, _, _, _, by go_num, rfl, by omega, by omega, HW9⟩
                  case measure => simp [intOf]; omega
            · obtain rfl : p = 2 := by omega
              rw [show ((2 : Nat) : Int) = 2 from rfl]
              have HD0 := Lib.hid (show LW w cs A3 m3 c3 (numsD s 0) wr by
                have : numsD s 0 = numsC s (2 * 9 + 0) := by simp [numsD]
                rw [this]; exact HW.out)
              clear HW
              go_upto_region 29 with fail
              go_loopw [5, 15] (fun v i wq => ∃ j A4 m4 c4, i = .int .i64 ((j : Nat) : Int) ∧ v = .slice A4 m4 c4 ∧ j ≤ 7 ∧ m4 ≤ 8430 + j ∧ Hid (LW w cs A4 m4 c4 (numsD s j) wq)) (fun _ i _ => 7 - (intOf i).toNat)
              case atStart => exact ⟨0, A3, m3, c3, rfl, rfl, by omega, by omega, HD0⟩
              case round =>
                clear HD0 hm3
                obtain ⟨j, A4, m4, c4, rfl, rfl, hj, hm4, HW⟩ := hrel
                by_cases hj9 : j < 7
                · have hdj : decide ((j : Int) < 7) = true := by simp; omega
                  have q0 : (0 : Int) ≤ (j : Int) := by omega
                  have q1 : (j : Int) < 7 := by omega
                  have hcj := HW.out.s.cell (30 + j)
                  rw [HC.out, stC_gm _ _ _ _ (by omega)] at hcj
                  have HNx := Lib.hid (numsD_succ s j)
                  obtain ⟨y, hy⟩ : ∃ y, y = s.gm j := ⟨_, rfl⟩
                  rw [← hy] at hcj HNx
                  obtain ⟨acc, hacc⟩ : ∃ acc, acc = numsD s j := ⟨_, rfl⟩
                  rw [← hacc] at HW HNx
                  have hwq := HW.out.s.lt
                  clear hy hacc
                  have HA6 := Lib.hid (HW.out.keep (show Below wr.heap.size wr (wr.alloc (.cells #[.int .i64 y] 3)) from (Below.refl _ _).alloc (Nat.le_refl _) _))
                  go_wp2_with (at_builtin; refine wpList_app rfl (.tmp 97) (.tmp 102) _ rfl .i64 (w.heap.size + 1) 3 i0 _ 8 Tryd.underlying23 hi hz0 hz1 hz2 rfl A4 m4 c4 acc rfl HA6.out.o _ (some ⟨wr.heap.size, 0, none⟩) 1 1 [y] rfl (Nums.one _ _ _ _) (by omega) (by omega) (by simp; omega) ?_; intro A5 c5 w7 ho6 hg6)
                  have HA7 := Lib.hid (HA6.out.app ho6 hg6)
                  rw [← HNx.out] at HA7
                  clear HA6 ho6 hg6 hcj
                  go_roundw
                  case rel => exact ⟨j + 1, _, _, _, by go_num, rfl, by omega, by omega, HA7⟩
                  case measure => simp [intOf]; omega
                · obtain rfl : j = 7 := by omega
                  rw [show ((7 : Nat) : Int) = 7 from rfl]
                  obtain ⟨w9, rfl⟩ : ∃ w9, w9 = wr := ⟨_, rfl⟩
                  obtain ⟨j0, hj0, hk0, hk1, hk2⟩ := info_parts info_u8
                  obtain ⟨nl, hnl⟩ : ∃ nl, nl = numsD s 7 := ⟨_, rfl⟩
                  have HN9 := Lib.hid HW.out.o.nums
                  have HB9 := Lib.hid HW.out.b
                  rw [← hnl] at HN9 hI
                  have HNl := Lib.hid hnl
                  have hln := HN9.out.len
                  clear hnl HW
                  have HO0 := Lib.hid (show Own .u8 5 (w9.alloc (.cells #[] 5)) w9.heap.size (some ⟨w9.heap.size, 0, none⟩) 0 0 ((nl.take 0).flatMap bts) from own_empty w9 _ (Nat.le_refl _))
                  have hb0 : Below w9.heap.size w9 (w9.alloc (.cells #[] 5)) := (Below.refl _ _).alloc (Nat.le_refl _) _
                  go_upto_region 34 with fail
                  go_loopw [16, 107] (fun v i wq => ∃ k A5 m5 c5, i = .int .i64 ((k : Nat) : Int) ∧ v = .slice A5 m5 c5 ∧ k ≤ m4 ∧ m5 ≤ 10 * k ∧ Hid (Own .u8 5 wq w9.heap.size A5 m5 c5 ((nl.take k).flatMap bts)) ∧ Below w9.heap.size w9 wq) (fun _ i _ => m4 - (intOf i).toNat)
                  case atStart => exact ⟨0, _, 0, 0, rfl, rfl, by omega, by omega, HO0, hb0⟩
                  case round =>
                    clear HO0 hb0
                    obtain ⟨k, A5, m5, c5, rfl, rfl, hk, hm5, HO, hbr⟩ := hrel
                    have hbs := hbr.size
                    by_cases hkm : k < m4
                    · obtain ⟨a, rfl, hab, hca⟩ := HN9.out.at_ (show k < nl.length by omega)
                      have hca := (hbr.cell (by rw [addr_block]; exact hab)).trans hca
                      have hyi := hI.out _ (List.getElem_mem (show k < nl.length by omega))
                      have HFl := Lib.hid (flat_nextD (show k < nl.length by omega))
                      obtain ⟨y, hy⟩ : ∃ y, y = nl[k]'(by omega) := ⟨_, rfl⟩
                      rw [← hy] at hca hyi HFl
                      have HY := Lib.hid hyi
                      obtain ⟨acc, hacc⟩ : ∃ acc, acc = (nl.take k).flatMap bts := ⟨_, rfl⟩
                      rw [← hacc] at HO HFl
                      have q0 : (0 : Int) ≤ (k : Int) := by omega
                      have q1 : (k : Int) < (m4 : Int) := by omega
                      clear hy hyi hacc
                      go_wp2_with fail
                      refine (bytesRef_any y HY.out wr).mono ?_
                      rintro e w7 ⟨A6, m6, c6, rfl, ho6, hb6⟩
                      have ho7 := HO.out.below hb6 (Nat.le_refl _)
                      have hbr7 := keepB hb6 hbr
                      have hb7 := hbr7.size
                      have hm6 : m6 ≤ 10 := by have := ho6.len; have := (bts_len y).2; omega
                      have HN6 := Lib.hid ho6.nums
                      clear ho6 hca
                      go_wp2_with (at_builtin; refine wpList_app rfl (.tmp 111) (.tmp 113) _ rfl .u8 w9.heap.size 5 j0 _ 1 Tryd.underlying30 hj0 hk0 hk1 hk2 rfl A5 m5 c5 acc rfl ho7 w7.heap.size A6 m6 c6 (bts y) rfl HN6.out (by omega) (by omega) (by omega) ?_; intro A8 c8 w8 ho8 hg8)
                      have HO8 := Lib.hid ho8
                      rw [← HFl.out] at HO8
                      have hbr8 := ho7.belowGrown hbr7 hb7 hg8
                      clear ho7 hg8 ho8
                      go_roundw
                      case rel => exact ⟨k + 1, _, _, _, by go_num, rfl, by omega, by omega, HO8, hbr8⟩
                      case measure => simp [intOf]; omega
                    · obtain rfl : k = m4 := by omega
                      have hfin : (if chkS s = 0 then bytesS s else []) = (nl.take k).flatMap bts := by
                        rw [if_pos HCk.out, ← bytes_nums s, ← HNl.out, List.take_of_length_le (by omega)]
                      have HFin := Lib.hid hfin
                      clear hfin
                      go_wp2_with fail
                      go_ret2
                      exact ⟨A5, m5, c5, by rw [HCk.out] <;> rfl, by rw [HFin.out]; exact HO.out.nums, HO.out.cap, keepB hbr HB9.out⟩
end Go.Proofs.YtihbdbgmijkjmaaDoor
