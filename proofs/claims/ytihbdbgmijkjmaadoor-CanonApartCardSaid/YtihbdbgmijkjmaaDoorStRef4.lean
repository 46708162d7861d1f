/- Layer 10: the reference's zones. -/
import Derived.Test.YtihbdbgmijkjmaaDoorStRef3
namespace Go.Proofs.YtihbdbgmijkjmaaDoor
open Go.RowKit Ex
set_option maxRecDepth 100000
attribute [local go_sem] arr_get
/-- Every id in the lists is an object's. -/
def idsB (n : Nat) (l : List Int) : Bool := l.all fun x => decide (0 ≤ x) && decide (x < n)
def listsB (s : StT) : Bool := (List.range 11).all fun z => idsB s.objs.length (s.lists z)
/-- No list but the object's own holds it. -/
def apartB (s : StT) (id : Nat) (own : Int) : Bool := (List.range 11).all fun z => (z : Int) == own || !(s.lists z).contains (id : Int)
def timesN (s : StT) (id z : Nat) : Nat := ((List.range z).map fun y => (s.lists y).count (id : Int)).sum
def wrongO (o : Nat → Int) : Bool := decide (o 3 < 8) && (o 1 != (o 3).tmod 2 || o 13 != 0) || o 3 == 8 && o 13 == 2
def zoneO (s : StT) (id : Nat) (o : Nat → Int) : Bool := apartB s id (o 3) && timesN s id 11 == 1 && !wrongO o
def zonesB (s : StT) : Bool := listsB s && (List.range s.objs.length).all fun i => zoneO s i (s.objs.getD i fun _ => 0)
def GoodL (s : StT) (z : Nat) : Prop := ∀ y, y < z → idsB s.objs.length (s.lists y) = true
def GoodI (n : Nat) (l : List Int) (k : Nat) : Prop := ∀ m (hm : m < l.length), m < k → (decide (0 ≤ l[m]) && decide (l[m] < n)) = true
theorem idsB_bad {n : Nat} {l : List Int} {k : Nat} (hk : k < l.length) (h : l[k] < 0 ∨ (n : Int) ≤ l[k]) : idsB n l = false := by
  rw [Bool.eq_false_iff]; intro h2
  unfold idsB at h2
  rw [List.all_eq_true] at h2
  have := h2 _ (List.getElem_mem hk)
  simp at this
  omega
theorem idsB_good {n : Nat} {l : List Int} (h : GoodI n l l.length) : idsB n l = true := by
  unfold idsB
  rw [List.all_eq_true]
  intro x hx
  obtain ⟨i, hi, rfl⟩ := List.getElem_of_mem hx
  exact h i hi hi
theorem zonesB_list {s : StT} {z : Nat} (hz : z < 11) (h : idsB s.objs.length (s.lists z) = false) : zonesB s = false := by
  have : listsB s = false := by
    rw [Bool.eq_false_iff]; intro h2
    unfold listsB at h2
    rw [List.all_eq_true] at h2
    have := h2 z (List.mem_range.2 hz)
    rw [h] at this; cases this
  simp [zonesB, this]
theorem listsB_good {s : StT} (h : GoodL s 11) : listsB s = true := by
  unfold listsB
  rw [List.all_eq_true]
  intro z hz
  exact h z (List.mem_range.1 hz)
def GoodZ (s : StT) (id : Nat) (own : Int) (z : Nat) : Prop := ∀ y, y < z → (y : Int) = own ∨ (id : Int) ∉ s.lists y
def GoodX (l : List Int) (id : Nat) (same : Prop) (k : Nat) : Prop := ∀ m (hm : m < l.length), m < k → same ∨ l[m] ≠ (id : Int)
def GoodN (s : StT) (id : Nat) : Prop := ∀ m (hm : m < s.objs.length), m < id → zoneO s m s.objs[m] = true
theorem GoodZ.next {s : StT} {id z : Nat} {own : Int} (h : GoodZ s id own z) (hx : GoodX (s.lists z) id ((z : Int) = own) (s.lists z).length) : GoodZ s id own (z + 1) := fun y hy => by
  by_cases e : y = z
  · subst e
    by_cases e2 : (y : Int) = own
    · exact .inl e2
    · refine .inr fun hm => ?_
      obtain ⟨m, hm2, he⟩ := List.getElem_of_mem hm
      rcases hx m hm2 hm2 with h3 | h3
      · exact e2 h3
      · exact h3 he
  · exact h y (by omega)
theorem apartB_good {s : StT} {id : Nat} {own : Int} (h : GoodZ s id own 11) : apartB s id own = true := by
  unfold apartB
  rw [List.all_eq_true]
  intro z hz
  rcases h z (List.mem_range.1 hz) with e | e
  · simp [e]
  · simp [e]
theorem apartB_bad {s : StT} {id : Nat} {own : Int} {z : Nat} (hz : z < 11) (h : (z : Int) ≠ own) (hm : (id : Int) ∈ s.lists z) : apartB s id own = false := by
  rw [Bool.eq_false_iff]; intro h2
  unfold apartB at h2
  rw [List.all_eq_true] at h2
  have := h2 z (List.mem_range.2 hz)
  simp [h, hm] at this
theorem timesN_succ (s : StT) (id z : Nat) : timesN s id (z + 1) = timesN s id z + (s.lists z).count (id : Int) := by
  unfold timesN
  rw [List.range_succ, List.map_append, List.sum_append]
  simp
theorem timesN_le {s : StT} (id : Nat) (h : ∀ z < 11, (s.lists z).length ≤ 1000000) : ∀ z, z ≤ 11 → timesN s id z ≤ z * 1000000
  | 0, _ => by simp [timesN]
  | z + 1, hz => by
    have h1 := timesN_le id h z (by omega)
    have h2 := h z (by omega)
    have h3 := List.count_le_length (a := (id : Int)) (l := s.lists z)
    rw [timesN_succ]
    omega
theorem st_count_step {l : List Int} {k : Nat} (hk : k < l.length) (x : Int) : (l.take (k + 1)).count x = (l.take k).count x + if l[k] = x then 1 else 0 := by
  rw [List.take_succ_eq_append_getElem hk, List.count_append, List.count_singleton]
  by_cases e : l[k] = x <;> simp [e]
theorem zonesB_obj {s : StT} {id : Nat} (hid : id < s.objs.length) (h : zoneO s id s.objs[id] = false) : zonesB s = false := by
  have : ((List.range s.objs.length).all fun i => zoneO s i (s.objs.getD i fun _ => 0)) = false := by
    rw [Bool.eq_false_iff]; intro h2
    rw [List.all_eq_true] at h2
    have := h2 id (List.mem_range.2 hid)
    rw [List.getD_eq_getElem?_getD, List.getElem?_eq_getElem hid, Option.getD_some, h] at this
    cases this
  rw [zonesB, this, Bool.and_false]
theorem zonesB_good {s : StT} (hl : listsB s = true) (h : GoodN s s.objs.length) : zonesB s = true := by
  rw [zonesB, hl, Bool.true_and, List.all_eq_true]
  intro i hi
  have hi := List.mem_range.1 hi
  rw [List.getD_eq_getElem?_getD, List.getElem?_eq_getElem hi, Option.getD_some]
  exact h i hi hi
theorem ReadsS.at_list {B : Nat} {w : World} {cs : Array Value} {s : StT} {O : SlT} {L : Nat → SlT} (h : ReadsS B w cs s O L) {z : Nat} (hz : z < 11) :
    ∃ A n c, cs[1 + z]? = some (.slice A n c) ∧ n ≤ c ∧ Nums .i64 w B A n (s.lists z) :=
  ⟨(L z).A, (L z).n, (L z).c, by rw [h.cs]; exact stC_list _ _ _ _ hz, h.lc z hz, h.l z hz⟩
set_option maxRecDepth 100000 in
set_option maxHeartbeats 0 in
theorem zones_any (s : StT) (O : SlT) (L : Nat → SlT) (cs : Array Value) (w : World) (B : Nat) (h : ReadsS B w cs s O L) (hB : B ≤ w.heap.size) (hn : s.objs.length ≤ 1000000) (hll : ∀ z < 11, (s.lists z).length ≤ 1000000) :
    Calls Tryd.prog 35 #[.agg cs] w fun e w' => e = .returned (.bool (zonesB s)) ∧ Below w.heap.size w w' := by
  go_enter Tryd.func35, Tryd.ntmps35
  have hcs := h.cs
  have c0 : cs[0]? = some (.slice O.A O.n O.c) := by rw [hcs]; exact stC_objs _ _ _ _
  have hOn := h.on
  have hOc := h.oc
  have hO := h.o
  have H := Lib.hid h
  clear h
  obtain ⟨A, n, c⟩ := O
  simp only at c0 hOn hOc hO
  clear hcs
  subst hOn
  go_upto_region 2 with fail
  have hs0 : StAt (w.alloc (.cells cs 29)) w.heap.size cs := StAt.new _ _
  have hb0 : Below w.heap.size w (w.alloc (.cells cs 29)) := (Below.refl _ _).alloc (Nat.le_refl _) _
  have hg0 : GoodL s 0 := fun y hy => absurd hy (by omega)
  go_loopw [3] (fun i wr => ∃ z : Nat, i = .int .i64 ((z : Nat) : Int) ∧ z ≤ 11 ∧ GoodL s z ∧ Below w.heap.size w wr ∧ StAt wr w.heap.size cs) (fun i _ => 11 - (intOf i).toNat)
  case atStart => exact ⟨0, rfl, by omega, hg0, hb0, hs0⟩
  case round =>
    clear hb0 hs0 hg0
    obtain ⟨z, rfl, hz, hgz, hbr, hsr⟩ := hrel
    have c0 := (hsr.cell 0).trans c0
    by_cases hlt : z < 11
    · have hd : decide ((z : Int) < 11) = true := by simp; omega
      obtain ⟨A2, n2, c2, hc2, hnc2, hN⟩ := H.out.at_list hlt
      have hc2 := (hsr.cell (1 + z)).trans hc2
      have hln := hN.len
      have hnm : n2 ≤ 1000000 := hln ▸ hll z hlt
      obtain ⟨l, hl⟩ : ∃ l, l = s.lists z := ⟨_, rfl⟩
      rw [← hl] at hN hln
      have HL := Lib.hid hl
      have HN := Lib.hid hN
      clear hl hN
      go_upto_region 5 with fail
      have hi0 : GoodI s.objs.length l 0 := fun m hm hk => absurd hk (by omega)
      go_loopw [21] (fun i wq => ∃ k : Nat, i = .int .i64 ((k : Nat) : Int) ∧ k ≤ n2 ∧ GoodI s.objs.length l k ∧ Below w.heap.size w wq ∧ StAt wq w.heap.size cs) (fun i _ => n2 - (intOf i).toNat)
      case atStart => exact ⟨0, rfl, by omega, hi0, hbr, hsr⟩
      case round =>
        clear hbr hsr hi0 c0 hc2
        obtain ⟨k, rfl, hk, hgi, hbr, hsr⟩ := hrel
        have c0 := (hsr.cell 0).trans (by assumption : cs[0]? = some (.slice A s.objs.length c))
        by_cases hkn : k < n2
        · obtain ⟨a, rfl, hab, hca⟩ := HN.out.at_ (show k < l.length by omega)
          have hca := (hbr.cell (by rw [addr_block]; omega)).trans hca
          have hkl : k < l.length := by omega
          obtain ⟨y, hy⟩ : ∃ y, y = l[k] := ⟨_, rfl⟩
          rw [← hy] at hca
          have HY := Lib.hid hy
          clear hy hc2
          by_cases hy0 : y < 0
          · have d0 : decide (y < 0) = true := decide_eq_true hy0
            have hf := Lib.hid (show zonesB s = false from zonesB_list hlt (by rw [← HL.out]; exact idsB_bad hkl (.inl (HY.out ▸ hy0))))
            go_wp2_with fail
            go_ret
            exact ⟨congrArg (fun b => Ending.returned (Value.bool b)) hf.out.symm, hbr⟩
          have d0 : decide (y < 0) = false := decide_eq_false hy0
          by_cases hyn : (s.objs.length : Int) ≤ y
          · have d1 : decide ((s.objs.length : Int) ≤ y) = true := decide_eq_true hyn
            have hf := Lib.hid (show zonesB s = false from zonesB_list hlt (by rw [← HL.out]; exact idsB_bad hkl (.inr (HY.out ▸ hyn))))
            go_wp2_with fail
            go_ret
            exact ⟨congrArg (fun b => Ending.returned (Value.bool b)) hf.out.symm, hbr⟩
          have d1 : decide ((s.objs.length : Int) ≤ y) = false := decide_eq_false hyn
          have hgi2 : GoodI s.objs.length l (k + 1) := fun m hm hmk => by
            by_cases e : m = k
            · subst e
              rw [← HY.out]
              simp; omega
            · exact hgi m hm (by omega)
          go_wp2_with fail
          go_roundw
          case rel => exact ⟨k + 1, by go_num, by omega, hgi2, hbr, hsr⟩
          case measure => simp [intOf]; omega
        · obtain rfl : k = n2 := by omega
          have hgz2 : GoodL s (z + 1) := fun m hm => by
            by_cases e : m = z
            · subst e; rw [← HL.out]; rw [← hln] at hgi; exact idsB_good hgi
            · exact hgz m (by omega)
          go_wp2_with fail
          go_roundw
          case rel => exact ⟨z + 1, by go_num, by omega, hgz2, hbr, hsr⟩
          case measure => simp [intOf]; omega
    · obtain rfl : z = 11 := by omega
      have hlists := listsB_good hgz
      clear hgz
      go_upto_region 11 with fail
      have hg0 : GoodN s 0 := fun m hm hk => absurd hk (by omega)
      rw [show ((11 : Nat) : Int) = 11 from rfl]
      go_loopw [38] (fun i wr => ∃ k : Nat, i = .int .i64 ((k : Nat) : Int) ∧ k ≤ s.objs.length ∧ GoodN s k ∧ Below w.heap.size w wr ∧ StAt wr w.heap.size cs) (fun i _ => s.objs.length - (intOf i).toNat)
      case atStart => exact ⟨0, rfl, by omega, hg0, hbr, hsr⟩
      case round =>
        clear hbr hsr hg0 c0
        obtain ⟨id, rfl, hk, hgn, hbr, hsr⟩ := hrel
        by_cases hid : id < s.objs.length
        · obtain ⟨b, off, rfl, hbB, hra⟩ := hO.at_ hid
          have hra := range_below hbr (by omega) hra
          obtain ⟨x, hx⟩ : ∃ x, x = s.objs[id] := ⟨_, rfl⟩
          rw [← hx] at hra
          have HX := Lib.hid hx
          clear hx
          have hz := st_zero18
          have hnew : (wr.alloc (.cells (arr .i64 18 fun _ => 0) 56)).heap[wr.heap.size]? = some (.cells (arr .i64 18 fun _ => 0) 56 (0, 0)) := heap_alloc_new _ _
          have hsx : (Tryd.prog.info? 56).map (·.size) = some (arr .i64 18 x).size := by rw [arr_size]; exact st_size18
          go_upto_region 13 with (first
            | (refine load_obj rfl (.tmp 41) rfl b (off + id * 18) rfl x hra ?_)
            | (refine wpList_store_row rfl 56 (.tmp 7) (.tmp 42) rfl wr.heap.size _ rfl rfl 56 (arr .i64 18 fun _ => 0) hnew hsx (by rw [arr_size, arr_size]) (arr_one .i64 18 x) ?_))
          obtain ⟨wn, hwn, hEn, hbn⟩ := ob_box wr x
          rw [← hwn]
          have hbrn := keepB hbn hbr
          have hsn := hsr.keep hbn
          obtain ⟨g, hg⟩ : ∃ g, g = wr.heap.size := ⟨_, rfl⟩
          rw [← hg] at hEn ⊢
          clear hwn hnew hra hz hsx hg hbr hsr
          go_upto_region 15 with fail
          have hz0 : GoodZ s id (x 3) 0 := fun y hy => absurd hy (by omega)
          go_loopw [8, 9] (fun t i wr => ∃ z : Nat, i = .int .i64 ((z : Nat) : Int) ∧ z ≤ 11 ∧ t = .int .i64 ((timesN s id z : Nat) : Int) ∧ GoodZ s id (x 3) z ∧ Below w.heap.size w wr ∧ StAt wr w.heap.size cs ∧ ObAt wr g x) (fun _ i _ => 11 - (intOf i).toNat)
          case atStart => exact ⟨0, rfl, by omega, rfl, hz0, hbrn, hsn, hEn⟩
          case round =>
            clear hbrn hsn hEn hz0 hbn
            obtain ⟨z, rfl, hz, rfl, hgz, hbr, hsr, hE⟩ := hrel
            by_cases hlt : z < 11
            · have hd : decide ((z : Int) < 11) = true := by simp; omega
              obtain ⟨A2, n2, c2, hc2, hnc2, hN⟩ := H.out.at_list hlt
              have hc2 := (hsr.cell (1 + z)).trans hc2
              have hln := hN.len
              have hnm : n2 ≤ 1000000 := hln ▸ hll z hlt
              have hts := timesN_le id hll z (by omega)
              have hts2 := Lib.hid (timesN_succ s id z)
              obtain ⟨T, hT⟩ : ∃ T, T = timesN s id z := ⟨_, rfl⟩
              rw [← hT] at hts hts2 ⊢
              have HT := Lib.hid hT
              have hTm : T ≤ 11000000 := by omega
              obtain ⟨l, hl⟩ : ∃ l, l = s.lists z := ⟨_, rfl⟩
              rw [← hl] at hN hln hts2
              have HL := Lib.hid hl
              have HN := Lib.hid hN
              clear hl hN hT hts
              have x3 : wr.cell? ⟨g, 3, none⟩ = some (.int .i64 (x 3)) := by
                have h := cell_of_row wr g 3 _ _ _ hE
                rw [arr_get .i64 18 x (show 3 < 18 by omega)] at h
                exact h
              go_upto_region 18 with fail
              have hi0 : GoodX l id ((z : Int) = x 3) 0 := fun m hm hk => absurd hk (by omega)
              go_loopw [8, 52] (fun t i wq => ∃ k : Nat, i = .int .i64 ((k : Nat) : Int) ∧ k ≤ n2 ∧ t = .int .i64 ((T + (l.take k).count (id : Int) : Nat) : Int) ∧ GoodX l id ((z : Int) = x 3) k ∧ Below w.heap.size w wq ∧ StAt wq w.heap.size cs ∧ ObAt wq g x) (fun _ i _ => n2 - (intOf i).toNat)
              case atStart => exact ⟨0, rfl, by omega, by simp, hi0, hbr, hsr, hE⟩
              case round =>
                clear hbr hsr hi0 hc2 hE x3
                obtain ⟨k, rfl, hk, rfl, hgi, hbr, hsr, hE⟩ := hrel
                have x3 : wr.cell? ⟨g, 3, none⟩ = some (.int .i64 (x 3)) := by
                  have h := cell_of_row wr g 3 _ _ _ hE
                  rw [arr_get .i64 18 x (show 3 < 18 by omega)] at h
                  exact h
                by_cases hkn : k < n2
                · obtain ⟨a, rfl, hab, hca⟩ := HN.out.at_ (show k < l.length by omega)
                  have hca := (hbr.cell (by rw [addr_block]; omega)).trans hca
                  have hkl : k < l.length := by omega
                  have hcs := st_count_step hkl (id : Int)
                  have hct : (l.take k).count (id : Int) ≤ 1000000 := by
                    have h1 := List.count_le_length (a := (id : Int)) (l := l.take k)
                    rw [List.length_take] at h1
                    omega
                  obtain ⟨C, hC⟩ : ∃ C, C = (l.take k).count (id : Int) := ⟨_, rfl⟩
                  rw [← hC] at hcs hct ⊢
                  obtain ⟨y, hy⟩ : ∃ y, y = l[k] := ⟨_, rfl⟩
                  rw [← hy] at hca hcs
                  have HY := Lib.hid hy
                  have HCS := Lib.hid hcs
                  clear hy hC hcs
                  by_cases ey : y = (id : Int)
                  · have d0 : (y == (id : Int)) = true := by simpa using ey
                    by_cases ez : (z : Int) = x 3
                    · have d1 : ((z : Int) != x 3) = false := by simp [ez]
                      have hgi2 : GoodX l id ((z : Int) = x 3) (k + 1) := fun m hm hmk => .inl ez
                      go_wp2_with fail
                      go_roundw
                      case rel => exact ⟨k + 1, by go_num, by omega, by rw [HCS.out, if_pos ey]; go_num, hgi2, hbr, hsr, hE⟩
                      case measure => simp [intOf]; omega
                    · have d1 : ((z : Int) != x 3) = true := by simpa using ez
                      have hf := Lib.hid (show zonesB s = false from zonesB_obj hid (by
                        rw [← HX.out, zoneO, apartB_bad hlt ez (by rw [← HL.out, ← ey, HY.out]; exact List.getElem_mem hkl)]
                        simp))
                      go_wp2_with fail
                      go_ret
                      exact ⟨congrArg (fun b => Ending.returned (Value.bool b)) hf.out.symm, hbr⟩
                  · have d0 : (y == (id : Int)) = false := by simpa using ey
                    have hgi2 : GoodX l id ((z : Int) = x 3) (k + 1) := fun m hm hmk => by
                      by_cases e : m = k
                      · subst e; exact .inr (by rw [← HY.out]; exact ey)
                      · exact hgi m hm (by omega)
                    go_wp2_with fail
                    go_roundw
                    case rel => exact ⟨k + 1, by go_num, by omega, by rw [HCS.out, if_neg ey]; go_num, hgi2, hbr, hsr, hE⟩
                    case measure => simp [intOf]; omega
                · obtain rfl : k = n2 := by omega
                  rw [← hln] at hgi
                  have hgz2 := hgz.next (by rw [← HL.out]; exact hgi)
                  have ht : timesN s id (z + 1) = T + (l.take k).count (id : Int) := by rw [hts2.out, ← hln, List.take_length]
                  rw [← ht]
                  have Ht := Lib.hid ht
                  clear ht
                  go_wp2_with fail
                  go_roundw
                  case rel => exact ⟨z + 1, by go_num, by omega, rfl, hgz2, hbr, hsr, hE⟩
                  case measure => simp [intOf]; omega
            · obtain rfl : z = 11 := by omega
              have hap := apartB_good hgz
              have xs : ∀ i < 18, wr.cell? ⟨g, i, none⟩ = some (.int .i64 (x i)) := fun i hi => by
                have h := cell_of_row wr g i _ _ _ hE
                rw [arr_get .i64 18 x hi] at h
                exact h
              have x1 := xs 1 (by omega)
              have x3 := xs 3 (by omega)
              have x13 := xs 13 (by omega)
              have hts := timesN_le id hll 11 (by omega)
              obtain ⟨T, hT⟩ : ∃ T, T = timesN s id 11 := ⟨_, rfl⟩
              rw [← hT] at hts ⊢
              have HT := Lib.hid hT
              clear hT xs hgz
              by_cases e1 : T = 1
              case neg =>
                have g1 : ((T : Int) != 1) = true := by simp; omega
                have hf := Lib.hid (show zonesB s = false from zonesB_obj hid (by
                  rw [← HX.out, zoneO, ← HT.out, show (T == 1) = false by simpa using e1]
                  simp))
                go_wp2_with fail
                go_ret
                exact ⟨congrArg (fun b => Ending.returned (Value.bool b)) hf.out.symm, hbr⟩
              have HT1 := Lib.hid (show (timesN s id 11 == 1) = true by rw [← HT.out, e1]; rfl)
              subst e1
              by_cases l8 : x 3 < 8
              · have d8 : decide (x 3 < 8) = true := decide_eq_true l8
                have f3 : (x 3 == 8) = false := by simp; omega
                by_cases em : x 1 = (x 3).tmod 2
                · have f1 : (x 1 != (x 3).tmod 2) = false := by simp [em]
                  by_cases e13 : x 13 = 0
                  · have f13 : (x 13 != 0) = false := by simp [e13]
                    have hgn2 : GoodN s (id + 1) := fun m hm hmk => by
                      by_cases e : m = id
                      · subst e; rw [← HX.out, zoneO, hap, HT1.out, show wrongO x = false by simp [wrongO, d8, f3, f1, f13]]; rfl
                      · exact hgn m hm (by omega)
                    go_wp2_with fail
                    go_roundw
                    case rel => exact ⟨id + 1, by go_num, by omega, hgn2, hbr, hsr⟩
                    case measure => simp [intOf]; omega
                  · have f13 : (x 13 != 0) = true := by simpa using e13
                    have hf := Lib.hid (show zonesB s = false from zonesB_obj hid (by rw [← HX.out, zoneO, show wrongO x = true by simp [wrongO, d8, f3, f1, f13], Bool.not_true, Bool.and_false]))
                    go_wp2_with fail
                    go_ret
                    exact ⟨congrArg (fun b => Ending.returned (Value.bool b)) hf.out.symm, hbr⟩
                · have f1 : (x 1 != (x 3).tmod 2) = true := by simpa using em
                  have hf := Lib.hid (show zonesB s = false from zonesB_obj hid (by rw [← HX.out, zoneO, show wrongO x = true by simp [wrongO, d8, f3, f1], Bool.not_true, Bool.and_false]))
                  go_wp2_with fail
                  go_ret
                  exact ⟨congrArg (fun b => Ending.returned (Value.bool b)) hf.out.symm, hbr⟩
              · have d8 : decide (x 3 < 8) = false := decide_eq_false l8
                by_cases e3 : x 3 = 8
                · have f3 : (x 3 == 8) = true := by simpa using e3
                  by_cases e13 : x 13 = 2
                  · have f13 : (x 13 == 2) = true := by simpa using e13
                    have hf := Lib.hid (show zonesB s = false from zonesB_obj hid (by rw [← HX.out, zoneO, show wrongO x = true by simp [wrongO, d8, f3, f13], Bool.not_true, Bool.and_false]))
                    go_wp2_with fail
                    go_ret
                    exact ⟨congrArg (fun b => Ending.returned (Value.bool b)) hf.out.symm, hbr⟩
                  · have f13 : (x 13 == 2) = false := by simpa using e13
                    have hgn2 : GoodN s (id + 1) := fun m hm hmk => by
                      by_cases e : m = id
                      · subst e; rw [← HX.out, zoneO, hap, HT1.out, show wrongO x = false by simp [wrongO, d8, f3, f13]]; rfl
                      · exact hgn m hm (by omega)
                    go_wp2_with fail
                    go_roundw
                    case rel => exact ⟨id + 1, by go_num, by omega, hgn2, hbr, hsr⟩
                    case measure => simp [intOf]; omega
                · have f3 : (x 3 == 8) = false := by simpa using e3
                  have hgn2 : GoodN s (id + 1) := fun m hm hmk => by
                    by_cases e : m = id
                    · subst e; rw [← HX.out, zoneO, hap, HT1.out, show wrongO x = false by simp [wrongO, d8, f3]]; rfl
                    · exact hgn m hm (by omega)
                  go_wp2_with fail
                  go_roundw
                  case rel => exact ⟨id + 1, by go_num, by omega, hgn2, hbr, hsr⟩
                  case measure => simp [intOf]; omega
        · obtain rfl : id = s.objs.length := by omega
          have hf := Lib.hid (zonesB_good hlists hgn)
          go_wp2_with fail
          go_ret
          exact ⟨congrArg (fun b => Ending.returned (Value.bool b)) hf.out.symm, hbr⟩
end Go.Proofs.YtihbdbgmijkjmaaDoor
