/- Layer 10: the code's listsFit. -/
import Derived.Test.YtkchpfifngknaaaDoorStZone
namespace Go.Proofs.YtkchpfifngknaaaDoor
open Go.RowKit Ex
attribute [local go_sem] arr_get
set_option maxRecDepth 100000
/-- An array of truth values. -/
def bArr (n : Nat) (f : Nat → Bool) : Array Value := (Array.range n).map fun i => Value.bool (f i)
theorem bArr_get (n : Nat) (f : Nat → Bool) {i : Nat} (h : i < n) : (bArr n f)[i]? = some (.bool (f i)) := by simp [bArr, h]
theorem bArr_set (n : Nat) (f : Nat → Bool) (j : Nat) (x : Bool) : (bArr n f).setIfInBounds j (.bool x) = bArr n (fun i => if i = j then x else f i) := by
  apply Array.ext
  · simp [bArr]
  · intro i h1 h2
    simp [bArr] at h1 h2
    rw [Array.getElem_setIfInBounds (by simp [bArr]; exact h2)]
    by_cases e : j = i
    · subst e; simp [bArr]
    · simp [bArr, e, show ¬ i = j from fun h => e h.symm]
/-- Block g tells which numbers were seen. -/
def Marks (w : World) (g : Nat) (l : List Int) : Prop := w.heap[g]? = some (.cells (bArr 400 fun i => decide ((i : Int) ∈ l)) 60 (0, 0))
theorem Marks.lt {w : World} {g : Nat} {l : List Int} (h : Marks w g l) : g < w.heap.size := (Array.getElem?_eq_some_iff.1 h).1
theorem Marks.keep {w w' : World} {g : Nat} {l : List Int} (h : Marks w g l) (hb : Below w.heap.size w w') : Marks w' g l := (hb.block g h.lt).trans h
theorem Marks.cell {w : World} {g : Nat} {l : List Int} (h : Marks w g l) {i : Nat} (hi : i < 400) : w.cell? ⟨g, i, none⟩ = some (.bool (decide ((i : Int) ∈ l))) := by
  rw [cell_of_row w g i _ _ _ h, bArr_get 400 _ hi]
theorem Marks.set_ {w : World} {g : Nat} {l : List Int} (h : Marks w g l) (i : Nat) : Marks (w.setCell ⟨g, i, none⟩ (.bool true)) g (l ++ [(i : Int)]) := by
  unfold Marks
  rw [heap_setCell_same w g i _ _ _ h, bArr_set]
  congr 2
  congr 1
  funext j
  by_cases e : j = i
  · subst e; simp
  · simp [e, show ¬ (j : Int) = (i : Int) by omega]
theorem zero400 (W : World) : (zeroValue 60).run Tryd.prog W = .ok (.agg (bArr 400 fun _ => false)) W := by kernel_rfl
def MayK (s : StT) (y : Nat) (l : List Int) (k : Nat) : Prop := ∀ m, m < k → ∀ x, l[m]? = some x → mayB (s.objs.getD x.toNat fun _ => 0) y = true
theorem load_objW {ops : Array Oper} {rest : List Oper} {op : Oper} {a : Act} {w : World} {Q : Exit → Act → World → Prop} (hw : Region.wanted op (yielded ops a.tmps) = true) (x : Operand) (ho : op.op = .load 33 x)
    (b o : Nat) (hx : a.eval x = .pointer (some ⟨b, o, none⟩)) (f : Nat → Int) (h : w.rangeAt b o (arr .i64 18 f).toList)
    (hK : wpList Tryd.prog ops Q rest (a.put op.dst (.agg (arr .i64 18 f))) w) : wpList Tryd.prog ops Q (op :: rest) a w := by
  refine BigFrame.wpList_want hw fun _ hK' => wp_load_mid 33 x ho b o hx (arr .i64 18 f).toList _ h Tryd.underlying33 rfl (by rw [Array.length_toList, arr_size]; exact st_size18) (hK' _ _ ?_)
  rw [Array.toArray_toList]
  exact hK
theorem Seen.next {s : StT} {y k : Nat} {x : Int} (h : Seen s y (flatS s y ++ (s.lists y).take k)) (hx : (s.lists y)[k]? = some x) (hno : ¬ x ∈ flatS s y ++ (s.lists y).take k) (h0 : 0 ≤ x) (h1 : x < s.objs.length) : Seen s y (flatS s y ++ (s.lists y).take (k + 1)) := by
  have hk : k < (s.lists y).length := (List.getElem?_eq_some_iff.1 hx).1
  have e : flatS s y ++ (s.lists y).take (k + 1) = (flatS s y ++ (s.lists y).take k) ++ [x] := by
    rw [List.take_succ_eq_append_getElem hk, (List.getElem?_eq_some_iff.1 hx).2, List.append_assoc]
  rw [e]
  refine ⟨?_, fun z hz => ?_, h.may⟩
  · rw [List.nodup_append]
    refine ⟨h.nd, by simp, fun a ha b hb => ?_⟩
    simp at hb; subst hb
    intro e; subst e; exact hno ha
  · rcases List.mem_append.1 hz with hz | hz
    · exact h.into z hz
    · simp at hz; subst hz; exact ⟨h0, h1⟩
theorem Seen.done {s : StT} {y : Nat} (h : Seen s y (flatS s y ++ s.lists y)) (hm : MayK s y (s.lists y) (s.lists y).length) : Seen s (y + 1) (flatS s (y + 1)) := by
  rw [flatS_succ]
  refine ⟨h.nd, h.into, fun z hz x hx => ?_⟩
  by_cases e : z = y
  · subst e
    obtain ⟨m, hm1, hm2⟩ := List.getElem_of_mem hx
    exact hm m hm1 x (by rw [List.getElem?_eq_getElem hm1, hm2])
  · exact h.may z (by omega) x hx
theorem list_at {B : Nat} {w : World} {cs : Array Value} {s : StT} {O : SlT} {L : Nat → SlT} (h : ReadsS B w cs s O L) {z : Nat} (hz : z < 11) :
    ∃ A n c, (∀ w, (Instr.index 24 (.agg (sl11 L)) (.int .i64 (z : Int))).run Tryd.prog w = .ok (.slice A n c) w) ∧ n ≤ c ∧ Nums .i64 w B A n (s.lists z) := ⟨_, _, _, index_list L z hz, h.lc z hz, h.l z hz⟩
/-- What stands while the lists are gone through. -/
structure LfS (w : World) (cs : Array Value) (g : Nat) (l : List Int) (W : World) : Prop where
  b : Below w.heap.size w W
  s : StAt W w.heap.size cs
  m : Marks W g l
theorem LfS.keep {w : World} {cs : Array Value} {g : Nat} {l : List Int} {W W' : World} (h : LfS w cs g l W) (hb : Below W.heap.size W W') : LfS w cs g l W' := ⟨keepB hb h.b, h.s.keep hb, h.m.keep hb⟩
theorem LfS.set_ {w : World} {cs : Array Value} {g : Nat} {l : List Int} {W : World} (h : LfS w cs g l W) (hg : w.heap.size < g) (i : Nat) : LfS w cs g (l ++ [(i : Int)]) (W.setCell ⟨g, i, none⟩ (.bool true)) :=
  ⟨h.b.setCell (by simp; omega) _, (heap_setCell_other W ⟨g, i, none⟩ w.heap.size _ (by simp; omega)).trans h.s, h.m.set_ i⟩
set_option maxHeartbeats 0 in
theorem lists_code (s : StT) (O : SlT) (L : Nat → SlT) (cs : Array Value) (w : World) (B : Nat) (h : ReadsS B w cs s O L) (hB : B ≤ w.heap.size) (hn : s.objs.length ≤ 400) (hll : ∀ z < 11, (s.lists z).length ≤ 1000000) :
    Calls Tryd.prog 23 #[.agg cs] w fun e w' => e = .returned (.bool (zonesB s)) ∧ Below w.heap.size w w' := by
  obtain ⟨q, hq⟩ : ∃ q, q = zonesB s := ⟨_, rfl⟩
  rw [← hq]
  have HQ := Lib.hid hq
  clear hq
  go_enter Tryd.func23, Tryd.ntmps23
  have hcs := h.cs
  have c0 : cs[0]? = some (.slice O.A O.n O.c) := by rw [hcs]; exact stC_objs _ _ _ _
  have hOn := h.on
  have hOc := h.oc
  have hO := h.o
  have hsz : (Tryd.prog.info? 29).map (·.size) = some cs.size := by rw [h.size]; exact size37
  have H := Lib.hid h
  clear h
  obtain ⟨A, n, c⟩ := O
  simp only at c0 hOn hOc hO
  have HC := Lib.hid hcs
  clear hcs
  subst hOn
  go_upto_region 1 with fail
  have hs0 : StAt (w.alloc (.cells cs 29)) w.heap.size cs := StAt.new _ _
  have hb0 : Below w.heap.size w (w.alloc (.cells cs 29)) := (Below.refl _ _).alloc (Nat.le_refl _) _
  obtain ⟨w1, hw1⟩ : ∃ w1, w1 = w.alloc (.cells cs 29) := ⟨_, rfl⟩
  rw [← hw1] at hs0 hb0 ⊢
  clear hw1
  have c1 := (hs0.cell 0).trans c0
  obtain ⟨zs, hzs⟩ : ∃ zs, zs = bArr 400 fun _ => false := ⟨_, rfl⟩
  have hz0 := zero400
  rw [← hzs] at hz0
  have hz1 : zs.size = 400 := by rw [hzs]; simp [bArr]
  have hz2 : ¬ zs = #[] := fun e => by rw [e] at hz1; cases hz1
  have HZ := Lib.hid hzs
  clear hzs
  go_upto_region 3 with fail
  have HLs := Lib.hid (show LfS w cs w1.heap.size [] (w1.alloc (.cells zs 60)) from by
    have hb1 : Below w1.heap.size w1 (w1.alloc (.cells zs 60)) := (Below.refl _ _).alloc (Nat.le_refl _) _
    refine ⟨keepB hb1 hb0, hs0.keep hb1, ?_⟩
    unfold Marks
    rw [heap_alloc_new, HZ.out]
    simp)
  obtain ⟨g, hg⟩ : ∃ g, g = w1.heap.size := ⟨_, rfl⟩
  have hgw : w.heap.size < g := by rw [hg]; exact hs0.lt
  obtain ⟨w2, hw2⟩ : ∃ w2, w2 = w1.alloc (.cells zs 60) := ⟨_, rfl⟩
  rw [← hg, ← hw2] at HLs
  rw [← hg, ← hw2]
  clear hz0 hz1 hz2 HZ zs hs0 hb0 c1 hg hw2 w1
  have hs2 := HLs.out.s
  have hra := hs2
  rw [HC.out] at hra
  have hra := hra.ls
  go_upto_region 4 with (refine load_lists rfl (.tmp 9) rfl w.heap.size 1 rfl (sl11 L) (sl11_size L) hra ?_)
  clear hra hs2
  have HS0 := Lib.hid (show Seen s 0 (flatS s 0) from ⟨by simp [flatS], fun x hx => by simp [flatS] at hx, fun z hz => absurd hz (by omega)⟩)
  go_loopw [4, 11] (fun c i wr => ∃ y : Nat, i = .int .i64 ((y : Nat) : Int) ∧ c = .int .i64 (((flatS s y).length : Nat) : Int) ∧ y ≤ 11 ∧ Hid (Seen s y (flatS s y)) ∧ Hid (LfS w cs g (flatS s y) wr)) (fun _ i _ => 11 - (intOf i).toNat)
  case atStart => exact ⟨0, rfl, rfl, by omega, HS0, HLs⟩
  case round =>
    clear HLs HS0
    obtain ⟨y, rfl, rfl, hy, HS, HM⟩ := hrel
    have hfl : (flatS s y).length ≤ 400 := by have := HS.out.le; omega
    by_cases hlt : y < 11
    · have hd : decide ((y : Int) < 11) = true := by simp; omega
      obtain ⟨A2, n2, c2, hc2, hnc2, hN⟩ := list_at H.out hlt
      have hln := hN.len
      have hnm : n2 ≤ 1000000 := hln ▸ hll y hlt
      have HN := Lib.hid hN
      clear hN
      go_upto_region 7 with fail
      clear hc2
      have HS2 := Lib.hid (show Seen s y (flatS s y ++ (s.lists y).take 0) by rw [List.take_zero, List.append_nil]; exact HS.out)
      have HM2 := Lib.hid (show LfS w cs g (flatS s y ++ (s.lists y).take 0) wr by rw [List.take_zero, List.append_nil]; exact HM.out)
      have HK0 := Lib.hid (show MayK s y (s.lists y) 0 from fun m hm => absurd hm (by omega))
      go_loopw [4, 17] (fun c i wq => ∃ k : Nat, i = .int .i64 ((k : Nat) : Int) ∧ c = .int .i64 (((flatS s y ++ (s.lists y).take k).length : Nat) : Int) ∧ k ≤ n2 ∧ Hid (Seen s y (flatS s y ++ (s.lists y).take k)) ∧ Hid (MayK s y (s.lists y) k) ∧ Hid (LfS w cs g (flatS s y ++ (s.lists y).take k) wq)) (fun _ i _ => n2 - (intOf i).toNat)
      case atStart => exact ⟨0, rfl, by rw [List.take_zero, List.append_nil], by omega, HS2, HK0, HM2⟩
      case round =>
        clear HS2 HK0 HM2 HS HM hfl
        obtain ⟨k, rfl, rfl, hk, HS, HK, HM⟩ := hrel
        have hfl : (flatS s y ++ (s.lists y).take k).length ≤ 400 := by have := HS.out.le; omega
        obtain ⟨l, hl⟩ : ∃ l, l = flatS s y ++ (s.lists y).take k := ⟨_, rfl⟩
        rw [← hl] at HS HM hfl
        rw [← hl]
        have HL := Lib.hid hl
        clear hl
        by_cases hkn : k < n2
        · have hd2 : decide ((k : Int) < (n2 : Int)) = true := by simp; omega
          obtain ⟨a, rfl, hab, hca⟩ := HN.out.at_ (show k < (s.lists y).length by omega)
          replace hca := (HM.out.b.cell (by rw [addr_block]; omega)).trans hca
          obtain ⟨x, hx⟩ : ∃ x, x = (s.lists y)[k]'(by omega) := ⟨_, rfl⟩
          rw [← hx] at hca
          have HX := Lib.hid (show (s.lists y)[k]? = some x by rw [hx]; exact List.getElem?_eq_getElem (by omega))
          clear hx
          have g0 : (0 : Int) ≤ (k : Int) := by omega
          have g1 : (k : Int) < (n2 : Int) := by omega
          have c3 := (HM.out.s.cell 0).trans c0
          have hbw := HM.out.b
          by_cases hx0 : x < 0
          · have d0 : decide (x < 0) = true := decide_eq_true hx0
            have hf : zonesB s = false := zonesB_list hlt (idsB_bad (k := k) (by omega) (.inl (by rw [(List.getElem?_eq_some_iff.1 HX.out).2]; exact hx0)))
            obtain rfl := HQ.out.trans hf
            clear hf
            go_wp2_with fail
            go_ret
            exact ⟨rfl, hbw⟩
          have d0 : decide (x < 0) = false := decide_eq_false hx0
          by_cases hxn : (s.objs.length : Int) ≤ x
          · have d1 : decide ((s.objs.length : Int) ≤ x) = true := decide_eq_true hxn
            have hf : zonesB s = false := zonesB_list hlt (idsB_bad (k := k) (by omega) (.inr (by rw [(List.getElem?_eq_some_iff.1 HX.out).2]; exact hxn)))
            obtain rfl := HQ.out.trans hf
            clear hf
            go_wp2_with fail
            go_ret
            exact ⟨rfl, hbw⟩
          have d1 : decide ((s.objs.length : Int) ≤ x) = false := decide_eq_false hxn
          obtain ⟨id, rfl⟩ : ∃ id : Nat, x = (id : Int) := ⟨x.toNat, by omega⟩
          have hid : id < s.objs.length := by omega
          have hcm := HM.out.m.cell (i := id) (by omega)
          have b0 : (0 : Int) ≤ (id : Int) := by omega
          have b1 : (id : Int) < 400 := by omega
          have b2 : (id : Int) < (s.objs.length : Int) := by omega
          have d1' : decide (s.objs.length ≤ id) = false := by simp; omega
          clear hx0 hxn
          by_cases hin : (id : Int) ∈ l
          · rw [show decide ((id : Int) ∈ l) = true by simpa using hin] at hcm
            have hf : zonesB s = false := zones_twice hlt HX.out (by rw [← HL.out]; exact hin) (by omega) b2
            obtain rfl := HQ.out.trans hf
            clear hf
            go_wp2_with fail
            go_ret
            exact ⟨rfl, hbw⟩
          rw [show decide ((id : Int) ∈ l) = false by simpa using hin] at hcm
          obtain ⟨b, off, rfl, hbB, hra⟩ := hO.at_ hid
          have hra := range_below hbw (by omega) hra
          obtain ⟨o, ho⟩ : ∃ o, o = s.objs[id] := ⟨_, rfl⟩
          rw [← ho] at hra
          have HO : (s.objs.getD (id : Int).toNat fun _ => 0) = o := by rw [Int.toNat_natCast, List.getD_eq_getElem?_getD, List.getElem?_eq_getElem hid, ho]; rfl
          have HO := Lib.hid HO
          clear ho
          have hmay := mayStand_any o y hlt
          obtain ⟨r, hr⟩ : ∃ r, r = mayB o y := ⟨_, rfl⟩
          rw [← hr] at hmay
          have HR := Lib.hid hr
          clear hr
          go_wp2_with (refine load_objW (by rfl) (.tmp 39) rfl b (off + id * 18) rfl o hra ?_)
          refine (hmay _).mono ?_
          rintro e w4 ⟨rfl, hb4⟩
          clear hmay hra hca hcm c3
          have HM4 := Lib.hid (HM.out.keep hb4)
          have hbw := HM4.out.b
          by_cases hrt : r = true
          case neg =>
            obtain rfl : r = false := by simpa using hrt
            have hf : zonesB s = false := zones_may hlt HX.out (by omega) b2 (by rw [HO.out]; exact HR.out.symm)
            obtain rfl := HQ.out.trans hf
            clear hf
            go_wp2_with fail
            go_ret
            exact ⟨rfl, hbw⟩
          subst hrt
          have hcm := HM4.out.m.cell (i := id) (by omega)
          have hfz := frozen_of_row w4 g id _ _ HM4.out.m
          have HS2 := Lib.hid (HS.out)
          rw [HL.out] at HS2
          have HS3 := Lib.hid (HS2.out.next HX.out (by rw [← HL.out]; exact hin) (by omega) b2)
          have HK2 := Lib.hid (show MayK s y (s.lists y) (k + 1) from fun m hm x hx => by
            by_cases e : m = k
            · subst e
              rw [HX.out] at hx
              injection hx with hx
              rw [← hx, HO.out]; exact HR.out.symm
            · exact HK.out m (by omega) x hx)
          have hlk : flatS s y ++ (s.lists y).take (k + 1) = l ++ [(id : Int)] := by
            rw [List.take_succ_eq_append_getElem (by omega), (List.getElem?_eq_some_iff.1 HX.out).2, ← List.append_assoc, ← HL.out]
          have HLK := Lib.hid hlk
          clear hlk HS2
          have HM5 := Lib.hid (HM4.out.set_ hgw id)
          rw [← HLK.out] at HM5
          have HN5 := Lib.hid (show (flatS s y ++ (s.lists y).take (k + 1)).length = l.length + 1 by rw [HLK.out]; simp)
          clear hin hbw
          go_wp2_with fail
          go_roundw
          case rel => exact ⟨k + 1, by go_num, by rw [HN5.out]; go_num, by omega, HS3, HK2, HM5⟩
          case measure => simp [intOf]; omega
        · obtain rfl : k = n2 := by omega
          have hd2 : decide ((k : Int) < (k : Int)) = false := by simp
          have hle : flatS s (y + 1) = l := by rw [flatS_succ, HL.out, List.take_of_length_le (by omega)]
          have HLE := Lib.hid hle
          have HS3 := Lib.hid (show Seen s (y + 1) (flatS s (y + 1)) from Seen.done (by rw [← flatS_succ, HLE.out]; exact HS.out) (by rw [hln]; exact HK.out))
          have HM5 := Lib.hid (show LfS w cs g (flatS s (y + 1)) wr by rw [HLE.out]; exact HM.out)
          clear hle
          go_wp2_with fail
          go_roundw
          case rel => exact ⟨y + 1, by go_num, by rw [HLE.out], by omega, HS3, HM5⟩
          case measure => simp [intOf]; omega
    · obtain rfl : y = 11 := by omega
      have hf := zones_seen HS.out
      have c3 := (HM.out.s.cell 0).trans c0
      have hbw := HM.out.b
      obtain ⟨m, hm⟩ : ∃ m, m = (flatS s 11).length := ⟨_, rfl⟩
      rw [← hm] at hf hfl ⊢
      clear hm
      by_cases e : m = s.objs.length
      · have de : ((m : Int) == (s.objs.length : Int)) = true := by simp; omega
        rw [show (m == s.objs.length) = true by simpa using e] at hf
        obtain rfl := HQ.out.trans hf
        clear hf
        go_wp2_with fail
        go_ret
        exact ⟨rfl, hbw⟩
      · have de : ((m : Int) == (s.objs.length : Int)) = false := by simp; omega
        rw [show (m == s.objs.length) = false by simpa using e] at hf
        obtain rfl := HQ.out.trans hf
        clear hf
        go_wp2_with fail
        go_ret
        exact ⟨rfl, hbw⟩
end Go.Proofs.YtkchpfifngknaaaDoor
