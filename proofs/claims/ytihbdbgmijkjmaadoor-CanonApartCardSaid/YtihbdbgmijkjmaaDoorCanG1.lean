/- Layer 10: a state's box, loaded whole; what is not long. Layer 10: the code's listsFit. Layer 10: two boxes with states, side by side. Layer 10: mulligannum's States. Layer 11: what canon's calls answer, as one statement: the laws' walks take it, the code's walks prove it. Layer 11: the laws' fixed fact. Layer 11: the law CanonBytes. -/
import Derived.Test.YtihbdbgmijkjmaaDoorStLong
import Derived.Test.YtihbdbgmijkjmaaDoorStC1
import Derived.Test.YtihbdbgmijkjmaaDoorReg
import Derived.Test.YtihbdbgmijkjmaaDoorStZone
import Derived.Test.YtihbdbgmijkjmaaDoorStSame
import Derived.Test.YtihbdbgmijkjmaaDoorNum
import Derived.Test.YtihbdbgmijkjmaaDoorCanMath3
import Derived.Test.YtihbdbgmijkjmaaDoorCanRef
import Derived.Test.YtihbdbgmijkjmaaDoorCanRef2
import Derived.Test.YtihbdbgmijkjmaaDoorCanG0
import Derived.Test.YtihbdbgmijkjmaaDoorIs
namespace Go.Proofs.YtihbdbgmijkjmaaDoor
open Go.RowKit Ex
set_option maxRecDepth 100000
/-- A state's box, loaded whole, behind a guard or not. -/
theorem load_wantS {ops : Array Oper} {rest : List Oper} {op : Oper} {a : Act} {w : World} {Q : Exit → Act → World → Prop} (hw : Region.wanted op (yielded ops a.tmps) = true) (x : Operand) (ho : op.op = .load 29 x)
    (g : Nat) (hx : a.eval x = .pointer (some ⟨g, 0, none⟩)) (cs : Array Value) (h : StAt w g cs) (hs : cs.size = 37)
    (hK : wpList Tryd.prog ops Q rest (a.put op.dst (.agg cs)) w) : wpList Tryd.prog ops Q (op :: rest) a w := by
  refine BigFrame.wpList_want hw fun _ hK' => wp_load_row 29 x ho g hx 29 cs (0, 0) _ h Tryd.underlying29 rfl (by rw [hs]; exact size37) (hK' _ _ hK)
theorem yields_st {ops : Array Oper} {S : World → Prop} {op : Oper} {a : Act} (hw : Region.wanted op (yielded ops a.tmps) = true) (x : Operand) (ho : op.op = .load 29 x)
    (g : Nat) (hx : a.eval x = .pointer (some ⟨g, 0, none⟩)) (cs : Array Value) (hs : cs.size = 37) (hS : ∀ w, S w → StAt w g cs) : YieldsIf Tryd.prog ops S op (.agg cs) a := by
  have h := yieldsIf_load_mid (P := Tryd.prog) (S := S) hw 29 x ho g 0 hx cs.toList _ (fun w hSw j v hv => by
    rw [Array.getElem?_toList] at hv
    rw [(hS w hSw).cell, Nat.zero_add]
    exact hv) Tryd.underlying29 rfl (by rw [Array.length_toList, hs]; exact size37)
  rw [Array.toArray_toList] at h
  exact h
/-- What is not long. -/
theorem long_not {s : StT} {most : Nat} (h : longS s most = false) : s.objs.length ≤ most ∧ ∀ z < 11, (s.lists z).length ≤ most + 10 := by
  simp only [longS, Bool.or_eq_false_iff, decide_eq_false_iff_not, List.any_eq_false, List.mem_range, decide_eq_true_eq] at h
  exact ⟨by have := h.1; omega, fun z hz => by have := h.2 z hz; omega⟩
theorem box_new (w : World) (cs : Array Value) : ∃ W, W = (w.alloc (.cells st0 29)).setRow w.heap.size cs ∧ StAt W w.heap.size cs ∧ Below w.heap.size w W :=
  ⟨_, rfl, setRow_heap _ _ _ _ _ _ (heap_alloc_new _ _), below_setRow ((Below.refl _ _).alloc (Nat.le_refl _) _) _ _ (Nat.le_refl _)⟩
end Go.Proofs.YtihbdbgmijkjmaaDoor
namespace Go.Proofs.YtihbdbgmijkjmaaDoor
open Go.RowKit Ex
attribute [local go_sem] arr_get
set_option maxRecDepth 100000
/-- An array of truth values. -/
def bArr (n : Nat) (f : Nat → Bool) : Array Value := (Array.range n).map fun i => Value.bool (f i)
theorem bArr_get (n : Nat) (f : Nat → Bool) {i : Nat} (h : i < n) : (bArr n f)[i]? = some (.bool (f i)) := by simp [bArr, h]
theorem bArr_set (n : Nat) (f : Nat → Bool) (j : Nat) (x : Bool) : (bArr n f).setIfInBounds j (.bool x) = bArr n (fun i => if i = j then x else f i) := by
  apply Array.ext
  · simp [bArr]
  · intro i h1 h2
    simp [bArr] at h1 h2
    rw [Array.getElem_setIfInBounds (by simp [bArr]; exact h2)]
    by_cases e : j = i
    · subst e; simp [bArr]
    · simp [bArr, e, show ¬ i = j from fun h => e h.symm]
/-- Block g tells which numbers were seen. -/
def Marks (w : World) (g : Nat) (l : List Int) : Prop := w.heap[g]? = some (.cells (bArr 400 fun i => decide ((i : Int) ∈ l)) 100 (0, 0))
theorem Marks.lt {w : World} {g : Nat} {l : List Int} (h : Marks w g l) : g < w.heap.size := (Array.getElem?_eq_some_iff.1 h).1
theorem Marks.keep {w w' : World} {g : Nat} {l : List Int} (h : Marks w g l) (hb : Below w.heap.size w w') : Marks w' g l := (hb.block g h.lt).trans h
theorem Marks.cell {w : World} {g : Nat} {l : List Int} (h : Marks w g l) {i : Nat} (hi : i < 400) : w.cell? ⟨g, i, none⟩ = some (.bool (decide ((i : Int) ∈ l))) := by
  rw [cell_of_row w g i _ _ _ h, bArr_get 400 _ hi]
theorem Marks.set_ {w : World} {g : Nat} {l : List Int} (h : Marks w g l) (i : Nat) : Marks (w.setCell ⟨g, i, none⟩ (.bool true)) g (l ++ [(i : Int)]) := by
  unfold Marks
  rw [heap_setCell_same w g i _ _ _ h, bArr_set]
  congr 2
  congr 1
  funext j
  by_cases e : j = i
  · subst e; simp
  · simp [e, show ¬ (j : Int) = (i : Int) by omega]
theorem zero400 (W : World) : (zeroValue 100).run Tryd.prog W = .ok (.agg (bArr 400 fun _ => false)) W := by kernel_rfl
def MayK (s : StT) (y : Nat) (l : List Int) (k : Nat) : Prop := ∀ m, m < k → ∀ x, l[m]? = some x → mayB (s.objs.getD x.toNat fun _ => 0) y = true
theorem load_objW {ops : Array Oper} {rest : List Oper} {op : Oper} {a : Act} {w : World} {Q : Exit → Act → World → Prop} (hw : Region.wanted op (yielded ops a.tmps) = true) (x : Operand) (ho : op.op = .load 56 x)
    (b o : Nat) (hx : a.eval x = .pointer (some ⟨b, o, none⟩)) (f : Nat → Int) (h : w.rangeAt b o (arr .i64 18 f).toList)
    (hK : wpList Tryd.prog ops Q rest (a.put op.dst (.agg (arr .i64 18 f))) w) : wpList Tryd.prog ops Q (op :: rest) a w := by
  refine BigFrame.wpList_want hw fun _ hK' => wp_load_mid 56 x ho b o hx (arr .i64 18 f).toList _ h Tryd.underlying56 rfl (by rw [Array.length_toList, arr_size]; exact st_size18) (hK' _ _ ?_)
  rw [Array.toArray_toList]
  exact hK
theorem Seen.next {s : StT} {y k : Nat} {x : Int} (h : Seen s y (flatS s y ++ (s.lists y).take k)) (hx : (s.lists y)[k]? = some x) (hno : ¬ x ∈ flatS s y ++ (s.lists y).take k) (h0 : 0 ≤ x) (h1 : x < s.objs.length) : Seen s y (flatS s y ++ (s.lists y).take (k + 1)) := by
  have hk : k < (s.lists y).length := (List.getElem?_eq_some_iff.1 hx).1
  have e : flatS s y ++ (s.lists y).take (k + 1) = (flatS s y ++ (s.lists y).take k) ++ [x] := by
    rw [List.take_succ_eq_append_getElem hk, (List.getElem?_eq_some_iff.1 hx).2, List.append_assoc]
  rw [e]
  refine ⟨?_, fun z hz => ?_, h.may⟩
  · rw [List.nodup_append]
    refine ⟨h.nd, by simp, fun a ha b hb => ?_⟩
    simp at hb; subst hb
    intro e; subst e; exact hno ha
  · rcases List.mem_append.1 hz with hz | hz
    · exact h.into z hz
    · simp at hz; subst hz; exact ⟨h0, h1⟩
theorem Seen.done {s : StT} {y : Nat} (h : Seen s y (flatS s y ++ s.lists y)) (hm : MayK s y (s.lists y) (s.lists y).length) : Seen s (y + 1) (flatS s (y + 1)) := by
  rw [flatS_succ]
  refine ⟨h.nd, h.into, fun z hz x hx => ?_⟩
  by_cases e : z = y
  · subst e
    obtain ⟨m, hm1, hm2⟩ := List.getElem_of_mem hx
    exact hm m hm1 x (by rw [List.getElem?_eq_getElem hm1, hm2])
  · exact h.may z (by omega) x hx
theorem list_at {B : Nat} {w : World} {cs : Array Value} {s : StT} {O : SlT} {L : Nat → SlT} (h : ReadsS B w cs s O L) {z : Nat} (hz : z < 11) :
    ∃ A n c, (∀ w, (Instr.index 24 (.agg (sl11 L)) (.int .i64 (z : Int))).run Tryd.prog w = .ok (.slice A n c) w) ∧ n ≤ c ∧ Nums .i64 w B A n (s.lists z) := ⟨_, _, _, index_list L z hz, h.lc z hz, h.l z hz⟩
/-- What stands while the lists are gone through. -/
structure LfS (w : World) (cs : Array Value) (g : Nat) (l : List Int) (W : World) : Prop where
  b : Below w.heap.size w W
  s : StAt W w.heap.size cs
  m : Marks W g l
theorem LfS.keep {w : World} {cs : Array Value} {g : Nat} {l : List Int} {W W' : World} (h : LfS w cs g l W) (hb : Below W.heap.size W W') : LfS w cs g l W' := ⟨keepB hb h.b, h.s.keep hb, h.m.keep hb⟩
theorem LfS.set_ {w : World} {cs : Array Value} {g : Nat} {l : List Int} {W : World} (h : LfS w cs g l W) (hg : w.heap.size < g) (i : Nat) : LfS w cs g (l ++ [(i : Int)]) (W.setCell ⟨g, i, none⟩ (.bool true)) :=
  ⟨h.b.setCell (by simp; omega) _, (heap_setCell_other W ⟨g, i, none⟩ w.heap.size _ (by simp; omega)).trans h.s, h.m.set_ i⟩
set_option maxHeartbeats 0 in
theorem lists_code (s : StT) (O : SlT) (L : Nat → SlT) (cs : Array Value) (w : World) (B : Nat) (h : ReadsS B w cs s O L) (hB : B ≤ w.heap.size) (hn : s.objs.length ≤ 400) (hll : ∀ z < 11, (s.lists z).length ≤ 1000000) :
    Calls Tryd.prog 38 #[.agg cs] w fun e w' => e = .returned (.bool (zonesB s)) ∧ Below w.heap.size w w' := by
  obtain ⟨q, hq⟩ : ∃ q, q = zonesB s := ⟨_, rfl⟩
  rw [← hq]
  have HQ := Lib.hid hq
  clear hq
  go_enter Tryd.func38, Tryd.ntmps38
  have hcs := h.cs
  have c0 : cs[0]? = some (.slice O.A O.n O.c) := by rw [hcs]; exact stC_objs _ _ _ _
  have hOn := h.on
  have hOc := h.oc
  have hO := h.o
  have hsz : (Tryd.prog.info? 29).map (·.size) = some cs.size := by rw [h.size]; exact size37
  have H := Lib.hid h
  clear h
  obtain ⟨A, n, c⟩ := O
  simp only at c0 hOn hOc hO
  have HC := Lib.hid hcs
  clear hcs
  subst hOn
  go_upto_region 1 with fail
  have hs0 : StAt (w.alloc (.cells cs 29)) w.heap.size cs := StAt.new _ _
  have hb0 : Below w.heap.size w (w.alloc (.cells cs 29)) := (Below.refl _ _).alloc (Nat.le_refl _) _
  obtain ⟨w1, hw1⟩ : ∃ w1, w1 = w.alloc (.cells cs 29) := ⟨_, rfl⟩
  rw [← hw1] at hs0 hb0 ⊢
  clear hw1
  have c1 := (hs0.cell 0).trans c0
  obtain ⟨zs, hzs⟩ : ∃ zs, zs = bArr 400 fun _ => false := ⟨_, rfl⟩
  have hz0 := zero400
  rw [← hzs] at hz0
  have hz1 : zs.size = 400 := by rw [hzs]; simp [bArr]
  have hz2 : ¬ zs = #[] := fun e => by rw [e] at hz1; cases hz1
  have HZ := Lib.hid hzs
  clear hzs
  go_upto_region 3 with fail
  have HLs := Lib.hid (show LfS w cs w1.heap.size [] (w1.alloc (.cells zs 100)) from by
    have hb1 : Below w1.heap.size w1 (w1.alloc (.cells zs 100)) := (Below.refl _ _).alloc (Nat.le_refl _) _
    refine ⟨keepB hb1 hb0, hs0.keep hb1, ?_⟩
    unfold Marks
    rw [heap_alloc_new, HZ.out]
    simp)
  obtain ⟨g, hg⟩ : ∃ g, g = w1.heap.size := ⟨_, rfl⟩
  have hgw : w.heap.size < g := by rw [hg]; exact hs0.lt
  obtain ⟨w2, hw2⟩ : ∃ w2, w2 = w1.alloc (.cells zs 100) := ⟨_, rfl⟩
  rw [← hg, ← hw2] at HLs
  rw [← hg, ← hw2]
  clear hz0 hz1 hz2 HZ zs hs0 hb0 c1 hg hw2 w1
  have hs2 := HLs.out.s
  have hra := hs2
  rw [HC.out] at hra
  have hra := hra.ls
  go_upto_region 4 with (refine load_lists rfl (.tmp 9) rfl w.heap.size 1 rfl (sl11 L) (sl11_size L) hra ?_)
  clear hra hs2
  have HS0 := Lib.hid (show Seen s 0 (flatS s 0) from ⟨by simp [flatS], fun x hx => by simp [flatS] at hx, fun z hz => absurd hz (by omega)⟩)
  go_loopw [4, 11] (fun c i wr => ∃ y : Nat, i = .int .i64 ((y : Nat) : Int) ∧ c = .int .i64 (((flatS s y).length : Nat) : Int) ∧ y ≤ 11 ∧ Hid (Seen s y (flatS s y)) ∧ Hid (LfS w cs g (flatS s y) wr)) (fun _ i _ => 11 - (intOf i).toNat)
  case atStart => exact ⟨0, rfl, rfl, by omega, HS0, HLs⟩
  case round =>
    clear HLs HS0
    obtain ⟨y, rfl, rfl, hy, HS, HM⟩ := hrel
    have hfl : (flatS s y).length ≤ 400 := by have := HS.out.le; omega
    by_cases hlt : y < 11
    · have hd : decide ((y : Int) < 11) = true := by simp; omega
      obtain ⟨A2, n2, c2, hc2, hnc2, hN⟩ := list_at H.out hlt
      have hln := hN.len
      have hnm : n2 ≤ 1000000 := hln ▸ hll y hlt
      have HN := Lib.hid hN
      clear hN
      go_upto_region 7 with fail
      clear hc2
      have HS2 := Lib.hid (show Seen s y (flatS s y ++ (s.lists y).take 0) by rw [List.take_zero, List.append_nil]; exact HS.out)
      have HM2 := Lib.hid (show LfS w cs g (flatS s y ++ (s.lists y).take 0) wr by rw [List.take_zero, List.append_nil]; exact HM.out)
      have HK0 := Lib.hid (show MayK s y (s.lists y) 0 from fun m hm => absurd hm (by omega))
      go_loopw [4, 17] (fun c i wq => ∃ k : Nat, i = .int .i64 ((k : Nat) : Int) ∧ c = .int .i64 (((flatS s y ++ (s.lists y).take k).length : Nat) : Int) ∧ k ≤ n2 ∧ Hid (Seen s y (flatS s y ++ (s.lists y).take k)) ∧ Hid (MayK s y (s.lists y) k) ∧ Hid (LfS w cs g (flatS s y ++ (s.lists y).take k) wq)) (fun _ i _ => n2 - (intOf i).toNat)
      case atStart => exact ⟨0, rfl, by rw [List.take_zero, List.append_nil], by omega, HS2, HK0, HM2⟩
      case round =>
        clear HS2 HK0 HM2 HS HM hfl
        obtain ⟨k, rfl, rfl, hk, HS, HK, HM⟩ := hrel
        have hfl : (flatS s y ++ (s.lists y).take k).length ≤ 400 := by have := HS.out.le; omega
        obtain ⟨l, hl⟩ : ∃ l, l = flatS s y ++ (s.lists y).take k := ⟨_, rfl⟩
        rw [← hl] at HS HM hfl
        rw [← hl]
        have HL := Lib.hid hl
        clear hl
        by_cases hkn : k < n2
        · have hd2 : decide ((k : Int) < (n2 : Int)) = true := by simp; omega
          obtain ⟨a, rfl, hab, hca⟩ := HN.out.at_ (show k < (s.lists y).length by omega)
          replace hca := (HM.out.b.cell (by rw [addr_block]; omega)).trans hca
          obtain ⟨x, hx⟩ : ∃ x, x = (s.lists y)[k]'(by omega) := ⟨_, rfl⟩
          rw [← hx] at hca
          have HX := Lib.hid (show (s.lists y)[k]? = some x by rw [hx]; exact List.getElem?_eq_getElem (by omega))
          clear hx
          have g0 : (0 : Int) ≤ (k : Int) := by omega
          have g1 : (k : Int) < (n2 : Int) := by omega
          have c3 := (HM.out.s.cell 0).trans c0
          have hbw := HM.out.b
          by_cases hx0 : x < 0
          · have d0 : decide (x < 0) = true := decide_eq_true hx0
            have hf : zonesB s = false := zonesB_list hlt (idsB_bad (k := k) (by omega) (.inl (by rw [(List.getElem?_eq_some_iff.1 HX.out).2]; exact hx0)))
            obtain rfl := HQ.out.trans hf
            clear hf
            go_wp2_with fail
            go_ret
            exact ⟨rfl, hbw⟩
          have d0 : decide (x < 0) = false := decide_eq_false hx0
          by_cases hxn : (s.objs.length : Int) ≤ x
          · have d1 : decide ((s.objs.length : Int) ≤ x) = true := decide_eq_true hxn
            have hf : zonesB s = false := zonesB_list hlt (idsB_bad (k := k) (by omega) (.inr (by rw [(List.getElem?_eq_some_iff.1 HX.out).2]; exact hxn)))
            obtain rfl := HQ.out.trans hf
            clear hf
            go_wp2_with fail
            go_ret
            exact ⟨rfl, hbw⟩
          have d1 : decide ((s.objs.length : Int) ≤ x) = false := decide_eq_false hxn
          obtain ⟨id, rfl⟩ : ∃ id : Nat, x = (id : Int) := ⟨x.toNat, by omega⟩
          have hid : id < s.objs.length := by omega
          have hcm := HM.out.m.cell (i := id) (by omega)
          have b0 : (0 : Int) ≤ (id : Int) := by omega
          have b1 : (id : Int) < 400 := by omega
          have b2 : (id : Int) < (s.objs.length : Int) := by omega
          have d1' : decide (s.objs.length ≤ id) = false := by simp; omega
          clear hx0 hxn
          by_cases hin : (id : Int) ∈ l
          · rw [show decide ((id : Int) ∈ l) = true by simpa using hin] at hcm
            have hf : zonesB s = false := zones_twice hlt HX.out (by rw [← HL.out]; exact hin) (by omega) b2
            obtain rfl := HQ.out.trans hf
            clear hf
            go_wp2_with fail
            go_ret
            exact ⟨rfl, hbw⟩
          rw [show decide ((id : Int) ∈ l) = false by simpa using hin] at hcm
          obtain ⟨b, off, rfl, hbB, hra⟩ := hO.at_ hid
          have hra := range_below hbw (by omega) hra
          obtain ⟨o, ho⟩ : ∃ o, o = s.objs[id] := ⟨_, rfl⟩
          rw [← ho] at hra
          have HO : (s.objs.getD (id : Int).toNat fun _ => 0) = o := by rw [Int.toNat_natCast, List.getD_eq_getElem?_getD, List.getElem?_eq_getElem hid, ho]; rfl
          have HO := Lib.hid HO
          clear ho
          have hmay := mayStand_any o y hlt
          obtain ⟨r, hr⟩ : ∃ r, r = mayB o y := ⟨_, rfl⟩
          rw [← hr] at hmay
          have HR := Lib.hid hr
          clear hr
          go_wp2_with (refine load_objW (by rfl) (.tmp 39) rfl b (off + id * 18) rfl o hra ?_)
          refine (hmay _).mono ?_
          rintro e w4 ⟨rfl, hb4⟩
          clear hmay hra hca hcm c3
          have HM4 := Lib.hid (HM.out.keep hb4)
          have hbw := HM4.out.b
          by_cases hrt : r = true
          case neg =>
            obtain rfl : r = false := by simpa using hrt
            have hf : zonesB s = false := zones_may hlt HX.out (by omega) b2 (by rw [HO.out]; exact HR.out.symm)
            obtain rfl := HQ.out.trans hf
            clear hf
            go_wp2_with fail
            go_ret
            exact ⟨rfl, hbw⟩
          subst hrt
          have hcm := HM4.out.m.cell (i := id) (by omega)
          have hfz := frozen_of_row w4 g id _ _ HM4.out.m
          have HS2 := Lib.hid (HS.out)
          rw [HL.out] at HS2
          have HS3 := Lib.hid (HS2.out.next HX.out (by rw [← HL.out]; exact hin) (by omega) b2)
          have HK2 := Lib.hid (show MayK s y (s.lists y) (k + 1) from fun m hm x hx => by
            by_cases e : m = k
            · subst e
              rw [HX.out] at hx
              injection hx with hx
              rw [← hx, HO.out]; exact HR.out.symm
            · exact HK.out m (by omega) x hx)
          have hlk : flatS s y ++ (s.lists y).take (k + 1) = l ++ [(id : Int)] := by
            rw [List.take_succ_eq_append_getElem (by omega), (List.getElem?_eq_some_iff.1 HX.out).2, ← List.append_assoc, ← HL.out]
          have HLK := Lib.hid hlk
          clear hlk HS2
          have HM5 := Lib.hid (HM4.out.set_ hgw id)
          rw [← HLK.out] at HM5
          have HN5 := Lib.hid (show (flatS s y ++ (s.lists y).take (k + 1)).length = l.length + 1 by rw [HLK.out]; simp)
          clear hin hbw
          go_wp2_with fail
          go_roundw
          case rel => exact ⟨k + 1, by go_num, by rw [HN5.out]; go_num, by omega, HS3, HK2, HM5⟩
          case measure => simp [intOf]; omega
        · obtain rfl : k = n2 := by omega
          have hd2 : decide ((k : Int) < (k : Int)) = false := by simp
          have hle : flatS s (y + 1) = l := by rw [flatS_succ, HL.out, List.take_of_length_le (by omega)]
          have HLE := Lib.hid hle
          have HS3 := Lib.hid (show Seen s (y + 1) (flatS s (y + 1)) from Seen.done (by rw [← flatS_succ, HLE.out]; exact HS.out) (by rw [hln]; exact HK.out))
          have HM5 := Lib.hid (show LfS w cs g (flatS s (y + 1)) wr by rw [HLE.out]; exact HM.out)
          clear hle
          go_wp2_with fail
          go_roundw
          case rel => exact ⟨y + 1, by go_num, by rw [HLE.out], by omega, HS3, HM5⟩
          case measure => simp [intOf]; omega
    · obtain rfl : y = 11 := by omega
      have hf := zones_seen HS.out
      have c3 := (HM.out.s.cell 0).trans c0
      have hbw := HM.out.b
      obtain ⟨m, hm⟩ : ∃ m, m = (flatS s 11).length := ⟨_, rfl⟩
      rw [← hm] at hf hfl ⊢
      clear hm
      by_cases e : m = s.objs.length
      · have de : ((m : Int) == (s.objs.length : Int)) = true := by simp; omega
        rw [show (m == s.objs.length) = true by simpa using e] at hf
        obtain rfl := HQ.out.trans hf
        clear hf
        go_wp2_with fail
        go_ret
        exact ⟨rfl, hbw⟩
      · have de : ((m : Int) == (s.objs.length : Int)) = false := by simp; omega
        rw [show (m == s.objs.length) = false by simpa using e] at hf
        obtain rfl := HQ.out.trans hf
        clear hf
        go_wp2_with fail
        go_ret
        exact ⟨rfl, hbw⟩
end Go.Proofs.YtihbdbgmijkjmaaDoor
namespace Go.Proofs.YtihbdbgmijkjmaaDoor
open Go.RowKit Ex
attribute [local go_sem] arr_get
set_option maxRecDepth 100000
theorem yields_obj {ops : Array Oper} {S : World → Prop} {op : Oper} {a : Act} (hw : Region.wanted op (yielded ops a.tmps) = true) (x : Operand) (ho : op.op = .load 56 x)
    (b o : Nat) (hx : a.eval x = .pointer (some ⟨b, o, none⟩)) (f : Nat → Int) (hS : ∀ w, S w → w.rangeAt b o (arr .i64 18 f).toList) : YieldsIf Tryd.prog ops S op (.agg (arr .i64 18 f)) a := by
  have h := yieldsIf_load_mid (P := Tryd.prog) (S := S) hw 56 x ho b o hx (arr .i64 18 f).toList _ hS Tryd.underlying56 rfl (by rw [Array.length_toList, arr_size]; exact st_size18)
  rw [Array.toArray_toList] at h
  exact h
theorem load_twoW {ops : Array Oper} {rest : List Oper} {op : Oper} {a : Act} {w : World} {Q : Exit → Act → World → Prop} (hw : Region.wanted op (yielded ops a.tmps) = true) (x : Operand) (ho : op.op = .load 26 x)
    (b o : Nat) (hx : a.eval x = .pointer (some ⟨b, o, none⟩)) (f : Nat → Int) (h : w.rangeAt b o (arr .i64 18 f).toList)
    (hK : wpList Tryd.prog ops Q rest (a.put op.dst (.agg (arr .i64 18 f))) w) : wpList Tryd.prog ops Q (op :: rest) a w := by
  refine BigFrame.wpList_want hw fun _ hK' => wp_load_mid 26 x ho b o hx (arr .i64 18 f).toList _ h Tryd.underlying26 rfl (by rw [Array.length_toList, arr_size]; exact size18p) (hK' _ _ ?_)
  rw [Array.toArray_toList]
  exact hK
theorem load_sevenW {ops : Array Oper} {rest : List Oper} {op : Oper} {a : Act} {w : World} {Q : Exit → Act → World → Prop} (hw : Region.wanted op (yielded ops a.tmps) = true) (x : Operand) (ho : op.op = .load 27 x)
    (b o : Nat) (hx : a.eval x = .pointer (some ⟨b, o, none⟩)) (f : Nat → Int) (h : w.rangeAt b o (arr .i64 7 f).toList)
    (hK : wpList Tryd.prog ops Q rest (a.put op.dst (.agg (arr .i64 7 f))) w) : wpList Tryd.prog ops Q (op :: rest) a w := by
  refine BigFrame.wpList_want hw fun _ hK' => wp_load_mid 27 x ho b o hx (arr .i64 7 f).toList _ h Tryd.underlying27 rfl (by rw [Array.length_toList, arr_size]; exact st_size7) (hK' _ _ ?_)
  rw [Array.toArray_toList]
  exact hK
/-- Two boxes with states. -/
structure TwoS (w : World) (ga gb : Nat) (ca cb : Array Value) (W : World) : Prop where
  b : Below w.heap.size w W
  sa : StAt W ga ca
  sb : StAt W gb cb
theorem TwoS.keep {w : World} {ga gb : Nat} {ca cb : Array Value} {W W' : World} (h : TwoS w ga gb ca cb W) (hb : Below W.heap.size W W') : TwoS w ga gb ca cb W' := ⟨keepB hb h.b, h.sa.keep hb, h.sb.keep hb⟩
theorem TwoS.drewN {w : World} {ga gb : Nat} {ca cb : Array Value} {W : World} (h : TwoS w ga gb ca cb W) (m : Nat) : TwoS w ga gb ca cb (W.drewN m) := ⟨below_drewN h.b m, h.sa, h.sb⟩
end Go.Proofs.YtihbdbgmijkjmaaDoor
namespace Go.Proofs.YtihbdbgmijkjmaaDoor
open Go.RowKit Ex
attribute [local go_sem] arr_get
set_option maxRecDepth 100000
theorem intsB (A1 A2 : Option Addr) (n1 c1 n2 c2 : Nat) (l1 l2 : List Int) (w : World) (B1 B2 : Nat) (h1 : Nums .i64 w B1 A1 n1 l1) (h2 : Nums .i64 w B2 A2 n2 l2) (hn1 : n1 ≤ 1000000000) (hn2 : n2 ≤ 1000000000) :
    Calls Tryd.prog 33 #[.slice A1 n1 c1, .slice A2 n2 c2] w fun e w' => e = .returned (.bool (decide (l1 = l2))) ∧ Below w.heap.size w w' :=
  (ints_any A1 A2 n1 c1 n2 c2 l1 l2 w B1 B2 h1 h2 hn1 hn2).mono fun _ _ ⟨h, m, hw⟩ => ⟨h, hw ▸ below_drewN (Below.refl _ _) m⟩
set_option linter.unusedSimpArgs false in
set_option maxHeartbeats 0 in
theorem states_any (a b : StT) (Oa Ob : SlT) (La Lb : Nat → SlT) (ca cb : Array Value) (w : World) (hA : ReadsS w.heap.size w ca a Oa La) (hB : ReadsS w.heap.size w cb b Ob Lb)
    (na : a.objs.length ≤ 1000000) (_nb : b.objs.length ≤ 1000000) (la : ∀ z < 11, (a.lists z).length ≤ 1000000) (lb : ∀ z < 11, (b.lists z).length ≤ 1000000) :
    Calls Tryd.prog 18 #[.agg ca, .agg cb] w fun e w' => e = .returned (.bool (sameS a b)) ∧ Below w.heap.size w w' := by
  obtain ⟨q, hq⟩ : ∃ q, q = sameS a b := ⟨_, rfl⟩
  rw [← hq]
  have HQ := Lib.hid hq
  clear hq
  go_enter Tryd.func18, Tryd.ntmps18
  have HA := Lib.hid hA
  have HB := Lib.hid hB
  clear hA hB
  have ca0 : ca[0]? = some (.slice Oa.A a.objs.length Oa.c) := by rw [HA.out.cs, stC_objs, ← HA.out.on]; rfl
  have cb0 : cb[0]? = some (.slice Ob.A b.objs.length Ob.c) := by rw [HB.out.cs, stC_objs, ← HB.out.on]; rfl
  go_upto_region 1 with fail
  have HT := Lib.hid (show TwoS w w.heap.size (w.heap.size + 1) ca cb ((w.alloc (.cells ca 29)).alloc (.cells cb 29)) from by
    have h1 : Below (w.alloc (.cells ca 29)).heap.size (w.alloc (.cells ca 29)) ((w.alloc (.cells ca 29)).alloc (.cells cb 29)) := (Below.refl _ _).alloc (Nat.le_refl _) _
    have h0 : Below w.heap.size w (w.alloc (.cells ca 29)) := (Below.refl _ _).alloc (Nat.le_refl _) _
    refine ⟨keepB h1 h0, (StAt.new w ca).keep h1, ?_⟩
    have h := StAt.new (w.alloc (.cells ca 29)) cb
    simpa using h)
  obtain ⟨w1, hw1⟩ : ∃ w1, w1 = (w.alloc (.cells ca 29)).alloc (.cells cb 29) := ⟨_, rfl⟩
  obtain ⟨gb, hgb⟩ : ∃ gb, gb = w.heap.size + 1 := ⟨_, rfl⟩
  rw [← hw1, ← hgb] at HT
  rw [← hw1, ← hgb]
  clear hw1 hgb
  have c1 := (HT.out.sa.cell 0).trans ca0
  have c2 := (HT.out.sb.cell 0).trans cb0
  have hbw := HT.out.b
  by_cases hln : a.objs.length = b.objs.length
  case neg =>
    have dl : ((a.objs.length : Int) != (b.objs.length : Int)) = true := by rw [bne_iff_ne]; omega
    have hf : sameS a b = false := by simp only [sameS, sameOL_len hln, Bool.false_and, Bool.and_false]
    clear hln
    obtain rfl := HQ.out.trans hf
    clear hf
    go_wp2_with fail
    go_ret
    exact ⟨rfl, hbw⟩
  have dl : ((a.objs.length : Int) != (b.objs.length : Int)) = false := by rw [bne_eq_false_iff_eq]; omega
  have HLn := Lib.hid hln
  clear hln
  have hra := HT.out.sa
  rw [HA.out.cs] at hra
  have hrb := HT.out.sb
  rw [HB.out.cs] at hrb
  have p1 := hra.two
  have p2 := hrb.two
  have g1 := hra.gm
  have g2 := hrb.gm
  have e1 := neq_two a.pl b.pl
  have e2 := neq_seven a.gm b.gm
  obtain ⟨u, hu⟩ : ∃ u, u = sameI 18 a.pl b.pl := ⟨_, rfl⟩
  obtain ⟨v, hv⟩ : ∃ v, v = sameI 7 a.gm b.gm := ⟨_, rfl⟩
  rw [← hu] at e1
  rw [← hv] at e2
  have hf0 : sameS a b = (sameL a b && sameOL a.objs b.objs && u && v) := by simp only [sameS, hu, hv]
  have HF := Lib.hid hf0
  clear hra hrb hu hv hf0
  by_cases hut : u = true
  case neg =>
    obtain rfl : u = false := by simpa using hut
    have hf : sameS a b = false := by rw [HF.out, Bool.and_false, Bool.false_and]
    clear hut
    obtain rfl := HQ.out.trans hf
    clear hf
    go_wp2_with (first
      | (refine load_twoW (by rfl) (.tmp 15) rfl w.heap.size 12 rfl a.pl p1 ?_)
      | (refine load_twoW (by rfl) (.tmp 17) rfl gb 12 rfl b.pl p2 ?_))
    go_ret
    exact ⟨rfl, hbw⟩
  subst hut
  by_cases hvt : v = true
  case neg =>
    obtain rfl : v = false := by simpa using hvt
    have hf : sameS a b = false := by rw [HF.out, Bool.and_false]
    clear hvt
    obtain rfl := HQ.out.trans hf
    clear hf
    go_wp2_with (first
      | (refine load_twoW (by rfl) (.tmp 15) rfl w.heap.size 12 rfl a.pl p1 ?_)
      | (refine load_twoW (by rfl) (.tmp 17) rfl gb 12 rfl b.pl p2 ?_)
      | (refine load_sevenW (by rfl) (.tmp 22) rfl w.heap.size 30 rfl a.gm g1 ?_)
      | (refine load_sevenW (by rfl) (.tmp 24) rfl gb 30 rfl b.gm g2 ?_))
    go_ret
    exact ⟨rfl, hbw⟩
  subst hvt
  go_upto_region 4 with (first
    | (refine load_twoW (by rfl) (.tmp 15) rfl w.heap.size 12 rfl a.pl p1 ?_)
    | (refine load_twoW (by rfl) (.tmp 17) rfl gb 12 rfl b.pl p2 ?_)
    | (refine load_sevenW (by rfl) (.tmp 22) rfl w.heap.size 30 rfl a.gm g1 ?_)
    | (refine load_sevenW (by rfl) (.tmp 24) rfl gb 30 rfl b.gm g2 ?_))
  clear p1 p2 g1 g2 e1 e2 c1 c2 hbw dl
  have HO0 := Lib.hid (show ∀ j (h1 : j < a.objs.length) (h2 : j < b.objs.length), j < 0 → sameI 18 a.objs[j] b.objs[j] = true from fun j _ _ h => absurd h (by omega))
  go_loopw [31] (fun i wr => ∃ k : Nat, i = .int .i64 ((k : Nat) : Int) ∧ k ≤ a.objs.length ∧ Hid (∀ j (h1 : j < a.objs.length) (h2 : j < b.objs.length), j < k → sameI 18 a.objs[j] b.objs[j] = true) ∧ Hid (TwoS w w.heap.size gb ca cb wr)) (fun i _ => a.objs.length - (intOf i).toNat)
  case atStart => exact ⟨0, rfl, by omega, HO0, HT⟩
  case round =>
    clear HT HO0
    obtain ⟨k, rfl, hk, HO, HT⟩ := hrel
    by_cases hlt : k < a.objs.length
    · have hlt2 : k < b.objs.length := by have := HLn.out; omega
      obtain ⟨b1, o1, ea, hb1, g1⟩ := HA.out.o.at_ hlt
      obtain ⟨b2, o2, eb, hb2, g2⟩ := HB.out.o.at_ hlt2
      have k1 : ∀ W, Below wr.heap.size wr W → W.cell? ⟨w.heap.size, 0, none⟩ = some (.slice (some ⟨b1, o1, none⟩) a.objs.length Oa.c) := fun W hW => by rw [(HT.out.sa.keep hW).cell, ca0, ea]
      have k2 : ∀ W, Below wr.heap.size wr W → W.cell? ⟨gb, 0, none⟩ = some (.slice (some ⟨b2, o2, none⟩) b.objs.length Ob.c) := fun W hW => by rw [(HT.out.sb.keep hW).cell, cb0, eb]
      replace g1 := range_below HT.out.b (by omega) g1
      replace g2 := range_below HT.out.b (by omega) g2
      have hb1' : b1 < wr.heap.size := by have := HT.out.b.size; omega
      have hb2' : b2 < wr.heap.size := by have := HT.out.b.size; omega
      obtain ⟨x, hx⟩ : ∃ x, x = a.objs[k] := ⟨_, rfl⟩
      obtain ⟨y, hy⟩ : ∃ y, y = b.objs[k] := ⟨_, rfl⟩
      rw [← hx] at g1
      rw [← hy] at g2
      have p0 : (0 : Int) ≤ (k : Int) := by omega
      have p1 : (k : Int) < (a.objs.length : Int) := by omega
      have p2 : (k : Int) < (b.objs.length : Int) := by omega
      have hneq := neq_obj x y
      obtain ⟨r, hr⟩ : ∃ r, r = sameI 18 x y := ⟨_, rfl⟩
      rw [← hr] at hneq
      have HR := Lib.hid (show r = sameI 18 a.objs[k] b.objs[k] by rw [hr, hx, hy])
      have G1 := Lib.hid g1
      have G2 := Lib.hid g2
      clear hx hy hr g1 g2 ea eb hb1 hb2
      go_upto_region 6 with fail
      refine region_below (by kernel_rfl) (fun hHeld => ?_)
      refine wpAnyH_take (i := 0) (v := ?_) rfl (by kernel_rfl) (by kernel_rfl) (by kernel_rfl) (fun _ _ _ h => h) (Or.inl ⟨by rfl, ?_⟩) hHeld ?_
      rotate_left
      · (intro w hSw; go_simp; (try with_reducible rfl))
      simp only [Act.put, List.getElem_toArray, List.getElem_cons_zero, List.getElem_cons_succ, List.setIfInBounds_toArray, List.set_cons_zero, List.set_cons_succ]
      refine wpAnyH_take (i := 1) (v := ?_) rfl (by kernel_rfl) (by kernel_rfl) (by kernel_rfl) (fun _ _ _ h => h) (Or.inl ⟨by rfl, ?_⟩) hHeld ?_
      rotate_left
      · (intro w hSw; go_simp; (try with_reducible rfl))
      simp only [Act.put, List.getElem_toArray, List.getElem_cons_zero, List.getElem_cons_succ, List.setIfInBounds_toArray, List.set_cons_zero, List.set_cons_succ]
      refine wpAnyH_take (i := 2) (v := ?_) rfl (by kernel_rfl) (by kernel_rfl) (by kernel_rfl) (fun _ _ _ h => h) (Or.inl ⟨by rfl, ?_⟩) hHeld ?_
      rotate_left
      · (intro w hSw; go_simp; (try with_reducible rfl))
      simp only [Act.put, List.getElem_toArray, List.getElem_cons_zero, List.getElem_cons_succ, List.setIfInBounds_toArray, List.set_cons_zero, List.set_cons_succ]
      refine wpAnyH_take (i := 3) (v := ?_) rfl (by kernel_rfl) (by kernel_rfl) (by kernel_rfl) (fun _ _ _ h => h) (Or.inl ⟨by rfl, ?_⟩) hHeld ?_
      rotate_left
      · (intro w hSw; go_simp; (try with_reducible rfl))
      simp only [Act.put, List.getElem_toArray, List.getElem_cons_zero, List.getElem_cons_succ, List.setIfInBounds_toArray, List.set_cons_zero, List.set_cons_succ]
      refine wpAnyH_take (i := 4) (v := .agg (arr .i64 18 x)) rfl (by kernel_rfl) (by kernel_rfl) (by kernel_rfl) (fun _ _ _ h => h) (yields_obj (by rfl) (.tmp 37) rfl b1 (o1 + k * 18) rfl x (fun W hW => range_below hW hb1' (G1).out)) hHeld ?_
      simp only [Act.put, List.getElem_toArray, List.getElem_cons_zero, List.getElem_cons_succ, List.setIfInBounds_toArray, List.set_cons_zero, List.set_cons_succ]
      refine wpAnyH_take (i := 5) (v := ?_) rfl (by kernel_rfl) (by kernel_rfl) (by kernel_rfl) (fun _ _ _ h => h) (Or.inl ⟨by rfl, ?_⟩) hHeld ?_
      rotate_left
      · (intro w hSw; go_simp; (try with_reducible rfl))
      simp only [Act.put, List.getElem_toArray, List.getElem_cons_zero, List.getElem_cons_succ, List.setIfInBounds_toArray, List.set_cons_zero, List.set_cons_succ]
      refine wpAnyH_take (i := 6) (v := ?_) rfl (by kernel_rfl) (by kernel_rfl) (by kernel_rfl) (fun _ _ _ h => h) (Or.inl ⟨by rfl, ?_⟩) hHeld ?_
      rotate_left
      · (intro w hSw; go_simp; (try with_reducible rfl))
      simp only [Act.put, List.getElem_toArray, List.getElem_cons_zero, List.getElem_cons_succ, List.setIfInBounds_toArray, List.set_cons_zero, List.set_cons_succ]
      refine wpAnyH_take (i := 7) (v := ?_) rfl (by kernel_rfl) (by kernel_rfl) (by kernel_rfl) (fun _ _ _ h => h) (Or.inl ⟨by rfl, ?_⟩) hHeld ?_
      rotate_left
      · (intro w hSw; go_simp; (try with_reducible rfl))
      simp only [Act.put, List.getElem_toArray, List.getElem_cons_zero, List.getElem_cons_succ, List.setIfInBounds_toArray, List.set_cons_zero, List.set_cons_succ]
      refine wpAnyH_take (i := 8) (v := ?_) rfl (by kernel_rfl) (by kernel_rfl) (by kernel_rfl) (fun _ _ _ h => h) (Or.inl ⟨by rfl, ?_⟩) hHeld ?_
      rotate_left
      · (intro w hSw; go_simp; (try with_reducible rfl))
      simp only [Act.put, List.getElem_toArray, List.getElem_cons_zero, List.getElem_cons_succ, List.setIfInBounds_toArray, List.set_cons_zero, List.set_cons_succ]
      refine wpAnyH_take (i := 9) (v := .agg (arr .i64 18 y)) rfl (by kernel_rfl) (by kernel_rfl) (by kernel_rfl) (fun _ _ _ h => h) (yields_obj (by rfl) (.tmp 42) rfl b2 (o2 + k * 18) rfl y (fun W hW => range_below hW hb2' (G2).out)) hHeld ?_
      simp only [Act.put, List.getElem_toArray, List.getElem_cons_zero, List.getElem_cons_succ, List.setIfInBounds_toArray, List.set_cons_zero, List.set_cons_succ]
      refine wpAnyH_take (i := 10) (v := ?_) rfl (by kernel_rfl) (by kernel_rfl) (by kernel_rfl) (fun _ _ _ h => h) (Or.inl ⟨by rfl, ?_⟩) hHeld ?_
      rotate_left
      · (intro w hSw; go_simp; (try with_reducible rfl))
      simp only [Act.put, List.getElem_toArray, List.getElem_cons_zero, List.getElem_cons_succ, List.setIfInBounds_toArray, List.set_cons_zero, List.set_cons_succ]
      refine wpAnyH_done (by kernel_rfl) ?_ _
      clear hneq k1 k2
      have HT2 := Lib.hid (HT.out.keep hHeld)
      have hbw := HT2.out.b
      by_cases hrt : r = true
      · subst hrt
        have HO2 := Lib.hid (show ∀ j (h1 : j < a.objs.length) (h2 : j < b.objs.length), j < k + 1 → sameI 18 a.objs[j] b.objs[j] = true from fun j h1 h2 hj => by
          by_cases e : j = k
          · subst e; exact HR.out.symm
          · exact HO.out j h1 h2 (by omega))
        clear hHeld
        go_wp2_with fail
        go_roundw
        case rel => exact ⟨k + 1, by go_num, by omega, HO2, HT2⟩
        case measure => simp [intOf]; omega
      · obtain rfl : r = false := by simpa using hrt
        have hf : sameS a b = false := by rw [HF.out, sameOL_at hlt hlt2 HR.out.symm]; simp
        obtain rfl := HQ.out.trans hf
        clear hf
        go_wp2_with fail
        go_ret
        exact ⟨rfl, hbw⟩
    · have hso : sameOL a.objs b.objs = true := sameOL_iff.2 ⟨HLn.out, fun j h1 h2 => HO.out j h1 h2 (by omega)⟩
      replace HF := Lib.hid (show sameS a b = sameL a b by rw [HF.out, hso]; simp)
      obtain rfl : k = a.objs.length := by omega
      clear hso HO
      go_upto_region 10 with fail
      have HL0 := Lib.hid (show ∀ y, y < 0 → a.lists y = b.lists y from fun y hy => absurd hy (by omega))
      go_loopw [46] (fun i wr => ∃ z : Nat, i = .int .i64 ((z : Nat) : Int) ∧ z ≤ 11 ∧ Hid (∀ y, y < z → a.lists y = b.lists y) ∧ Hid (TwoS w w.heap.size gb ca cb wr)) (fun i _ => 11 - (intOf i).toNat)
      case atStart => exact ⟨0, rfl, by omega, HL0, HT⟩
      case round =>
        clear HT HL0
        obtain ⟨z, rfl, hz, HL, HT⟩ := hrel
        by_cases hlt : z < 11
        · have hd : decide ((z : Int) < 11) = true := by simp; omega
          have p0 : (0 : Int) ≤ (z : Int) := by omega
          have p1 : (z : Int) < 11 := by omega
          obtain ⟨A1, n1, c1, hc1, _, hN1⟩ := HA.out.at_list hlt
          obtain ⟨A2, n2, c2, hc2, _, hN2⟩ := HB.out.at_list hlt
          have k1 : ∀ W, Below wr.heap.size wr W → W.cell? ⟨w.heap.size, 1 + z, none⟩ = some (.slice A1 n1 c1) := fun W hW => by rw [(HT.out.sa.keep hW).cell, hc1]
          have k2 : ∀ W, Below wr.heap.size wr W → W.cell? ⟨gb, 1 + z, none⟩ = some (.slice A2 n2 c2) := fun W hW => by rw [(HT.out.sb.keep hW).cell, hc2]
          have heq := fun W (hW : Below wr.heap.size wr W) => intsB A1 A2 n1 c1 n2 c2 _ _ W _ _ (hN1.below (keepB hW HT.out.b)) (hN2.below (keepB hW HT.out.b)) (by have := hN1.len; have := la z hlt; omega) (by have := hN2.len; have := lb z hlt; omega)
          obtain ⟨r, hr⟩ : ∃ r, r = decide (a.lists z = b.lists z) := ⟨_, rfl⟩
          rw [← hr] at heq
          have HR := Lib.hid hr
          have HE := Lib.hid heq
          clear hr hN1 hN2 hc1 hc2 heq
          go_upto_region 12 with fail
          refine region_below (by kernel_rfl) (fun hHeld => ?_)
          refine wpAnyH_take (i := 0) (v := ?_) rfl (by kernel_rfl) (by kernel_rfl) (by kernel_rfl) (fun _ _ _ h => h) (Or.inl ⟨by rfl, ?_⟩) hHeld ?_
          rotate_left
          · (intro w hSw; go_simp; (try with_reducible rfl))
          simp only [Act.put, List.getElem_toArray, List.getElem_cons_zero, List.getElem_cons_succ, List.setIfInBounds_toArray, List.set_cons_zero, List.set_cons_succ]
          refine wpAnyH_take (i := 1) (v := ?_) rfl (by kernel_rfl) (by kernel_rfl) (by kernel_rfl) (fun _ _ _ h => h) (Or.inl ⟨by rfl, ?_⟩) hHeld ?_
          rotate_left
          · (intro w hSw; go_simp; (try with_reducible rfl))
          simp only [Act.put, List.getElem_toArray, List.getElem_cons_zero, List.getElem_cons_succ, List.setIfInBounds_toArray, List.set_cons_zero, List.set_cons_succ]
          refine wpAnyH_take (i := 2) (v := ?_) rfl (by kernel_rfl) (by kernel_rfl) (by kernel_rfl) (fun _ _ _ h => h) (Or.inl ⟨by rfl, ?_⟩) hHeld ?_
          rotate_left
          · (intro w hSw; go_simp; (try with_reducible rfl))
          simp only [Act.put, List.getElem_toArray, List.getElem_cons_zero, List.getElem_cons_succ, List.setIfInBounds_toArray, List.set_cons_zero, List.set_cons_succ]
          refine wpAnyH_take (i := 3) (v := ?_) rfl (by kernel_rfl) (by kernel_rfl) (by kernel_rfl) (fun _ _ _ h => h) (Or.inl ⟨by rfl, ?_⟩) hHeld ?_
          rotate_left
          · (intro w hSw; go_simp; (try with_reducible rfl))
          simp only [Act.put, List.getElem_toArray, List.getElem_cons_zero, List.getElem_cons_succ, List.setIfInBounds_toArray, List.set_cons_zero, List.set_cons_succ]
          refine wpAnyH_take (i := 4) (v := ?_) rfl (by kernel_rfl) (by kernel_rfl) (by kernel_rfl) (fun _ _ _ h => h) (Or.inl ⟨by rfl, ?_⟩) hHeld ?_
          rotate_left
          · (intro w hSw; go_simp; (try with_reducible rfl))
          simp only [Act.put, List.getElem_toArray, List.getElem_cons_zero, List.getElem_cons_succ, List.setIfInBounds_toArray, List.set_cons_zero, List.set_cons_succ]
          refine wpAnyH_take (i := 5) (v := ?_) rfl (by kernel_rfl) (by kernel_rfl) (by kernel_rfl) (fun _ _ _ h => h) (Or.inl ⟨by rfl, ?_⟩) hHeld ?_
          rotate_left
          · (intro w hSw; go_simp; (try with_reducible rfl))
          simp only [Act.put, List.getElem_toArray, List.getElem_cons_zero, List.getElem_cons_succ, List.setIfInBounds_toArray, List.set_cons_zero, List.set_cons_succ]
          refine wpAnyH_take (i := 6) (v := ?_) rfl (by kernel_rfl) (by kernel_rfl) (by kernel_rfl) (fun _ _ _ h => h) (Or.inl ⟨by rfl, ?_⟩) hHeld ?_
          rotate_left
          · (intro w hSw; go_simp; (try with_reducible rfl))
          simp only [Act.put, List.getElem_toArray, List.getElem_cons_zero, List.getElem_cons_succ, List.setIfInBounds_toArray, List.set_cons_zero, List.set_cons_succ]
          refine wpAnyH_take (i := 7) (v := ?_) rfl (by kernel_rfl) (by kernel_rfl) (by kernel_rfl) (fun _ _ _ h => h) (Or.inl ⟨by rfl, ?_⟩) hHeld ?_
          rotate_left
          · (intro w hSw; go_simp; (try with_reducible rfl))
          simp only [Act.put, List.getElem_toArray, List.getElem_cons_zero, List.getElem_cons_succ, List.setIfInBounds_toArray, List.set_cons_zero, List.set_cons_succ]
          refine wpAnyH_ready (rs := [8]) (by kernel_rfl) (by simp) ?_
          refine AllReadyH.cons rfl (fun K hK => ?_) AllReadyH.nil
          simp only [List.getElem_toArray, List.getElem_cons_zero, List.getElem_cons_succ]
          go_simp
          refine (HE.out _ hHeld).mono ?_
          rintro e w4 ⟨rfl, hb4⟩
          go_wp2_with fail
          have hB4 := keepB hb4 hHeld
          refine hK.out _ _ hB4 (fun _ => ?_)
          clear hK K
          try simp only [Act.put, List.setIfInBounds_toArray, List.set_cons_zero, List.set_cons_succ]
          refine anyH_rebase hB4 (fun hHeld => ?_)
          refine wpAnyH_take (i := 9) (v := ?_) rfl (by kernel_rfl) (by kernel_rfl) (by kernel_rfl) (fun _ _ _ h => h) (Or.inl ⟨by rfl, ?_⟩) hHeld ?_
          rotate_left
          · (intro w hSw; go_simp; (try with_reducible rfl))
          simp only [Act.put, List.getElem_toArray, List.getElem_cons_zero, List.getElem_cons_succ, List.setIfInBounds_toArray, List.set_cons_zero, List.set_cons_succ]
          refine wpAnyH_done (by kernel_rfl) ?_ _
          have HT2 := Lib.hid (HT.out.keep hB4)
          have hbw := HT2.out.b
          clear HE k1 k2 hB4 hHeld
          by_cases hrt : r = true
          · subst hrt
            have HL2 := Lib.hid (show ∀ y, y < z + 1 → a.lists y = b.lists y from fun y hy => by
              by_cases e : y = z
              · subst e; exact of_decide_eq_true HR.out.symm
              · exact HL.out y (by omega))
            go_wp2_with fail
            go_roundw
            case rel => exact ⟨z + 1, by go_num, by omega, HL2, HT2⟩
            case measure => simp [intOf]; omega
          · obtain rfl : r = false := by simpa using hrt
            have hf : sameS a b = false := HF.out.trans (sameL_bad hlt (of_decide_eq_false HR.out.symm))
            obtain rfl := HQ.out.trans hf
            clear hf
            go_wp2_with fail
            go_ret
            exact ⟨rfl, hbw⟩
        · obtain rfl : z = 11 := by omega
          have hf := HF.out.trans (sameL_good HL.out)
          have hbw := HT.out.b
          obtain rfl := HQ.out.trans hf
          clear hf
          go_wp2_with fail
          go_ret
          exact ⟨rfl, hbw⟩
end Go.Proofs.YtihbdbgmijkjmaaDoor
namespace Go.Proofs.YtihbdbgmijkjmaaDoor
open Go.RowKit Ex Px Wx
set_option maxRecDepth 100000
/-- What Bytes answers; Parse. -/
def CanBE (w : World) (s : StT) (e : Ending) (w' : World) : Prop :=
  ∃ A n c, e = .returned (.tuple #[.slice A n c, errV (chkS s)]) ∧ Nums .u8 w' w'.heap.size A n (if chkS s = 0 then bytesS s else []) ∧ n ≤ c ∧ Below w.heap.size w w'
def CanPE (w : World) (l : List Int) (e : Ending) (w' : World) : Prop :=
  ∃ cs O L, e = .returned (.tuple #[.agg cs, errV (parseS l).2]) ∧ ReadsS w'.heap.size w' cs (parseS l).1 O L ∧ Below w.heap.size w w'
def markS (s : StT) : Int := if chkS s = 0 then hashB (bytesS s) else 0
structure CanSaid (z : World) : Prop where
  bytes : ∀ (s : StT) (O : SlT) (L : Nat → SlT) (cs : Array Value) (w : World), ReadsS w.heap.size w cs s O L → s.objs.length ≤ 1000000 → (∀ z < 11, (s.lists z).length ≤ 1000000) → Below z.heap.size z w → Calls Tryd.prog 9 #[.agg cs] w (CanBE w s)
  mark : ∀ (s : StT) (O : SlT) (L : Nat → SlT) (cs : Array Value) (w : World), ReadsS w.heap.size w cs s O L → s.objs.length ≤ 1000000 → (∀ z < 11, (s.lists z).length ≤ 1000000) → Below z.heap.size z w →
    Calls Tryd.prog 11 #[.agg cs] w fun e w' => e = .returned (.tuple #[.int .u64 (markS s), errV (chkS s)]) ∧ Below w.heap.size w w'
  hash : ∀ (A : Option Addr) (n c : Nat) (l : List Int) (w : World), Nums .u8 w w.heap.size A n l → n ≤ c → byB l → n ≤ 1000000 → Below z.heap.size z w → Calls Tryd.prog 15 #[.slice A n c] w fun e w' => e = .returned (.int .u64 (hashB l)) ∧ Below w.heap.size w w'
  parse : ∀ (A : Option Addr) (n c : Nat) (l : List Int) (w : World), Nums .u8 w w.heap.size A n l → n ≤ c → byB l → n ≤ 1000000 → Below z.heap.size z w → Calls Tryd.prog 16 #[.slice A n c] w (CanPE w l)
theorem str_beqC {a b : List Int} (ha : byB a) (hb : byB b) (q : Bool) (h : q = decide (a = b)) : ((strOfNums a).toList == (strOfNums b).toList) = q := by
  rw [ByteArray.toList_eq, ByteArray.toList_eq, h, Bool.eq_iff_iff, beq_iff_eq, decide_eq_true_iff, ← str_inj ha hb]
  constructor
  · intro e; exact ByteArray.ext (Array.toList_inj.1 e)
  · intro e; rw [e]
theorem numBytes_any (A1 A2 : Option Addr) (n1 c1 n2 c2 : Nat) (l1 l2 : List Int) (w : World) (B1 B2 : Nat) (h1 : Nums .u8 w B1 A1 n1 l1) (h2 : Nums .u8 w B2 A2 n2 l2) (hb1 : byB l1) (hb2 : byB l2) :
    Calls Tryd.prog 13 #[.slice A1 n1 c1, .slice A2 n2 c2] w fun e w' => e = .returned (.bool (decide (l1 = l2))) ∧ w = w' := by
  have g1 := string_at (c := c1) h1
  have g2 := string_at (c := c2) h2
  obtain ⟨q, hq⟩ : ∃ q, q = decide (l1 = l2) := ⟨_, rfl⟩
  have hs := str_beqC hb1 hb2 q hq
  rw [← hq]
  clear h1 h2 hb1 hb2 hq
  obtain ⟨s, hs1⟩ : ∃ s, s = strOfNums l1 := ⟨_, rfl⟩
  obtain ⟨t, ht1⟩ : ∃ t, t = strOfNums l2 := ⟨_, rfl⟩
  rw [← hs1] at g1 hs
  rw [← ht1] at g2 hs
  clear hs1 ht1
  go_enter Tryd.func13, Tryd.ntmps13
  go_wp2_with fail
  go_ret
  exact ⟨rfl, rfl⟩
/-- A right state's bytes are bytes, and not too many. -/
theorem bytes_byB {s : StT} (hc : chkS s = 0) (ho : ∀ o ∈ s.objs, ∀ i, i < 18 → i64B (o i)) (hl : ∀ z, z < 11 → ∀ n ∈ s.lists z, i64B n) (hp : ∀ i, i < 18 → i64B (s.pl i)) (hg : ∀ i, i < 7 → i64B (s.gm i)) : byB (bytesS s) := by
  rw [← bytes_nums]
  exact flat_byB (nums_i64 hc ho hl hp hg)
theorem bytes_few {s : StT} (hc : chkS s = 0) : (bytesS s).length ≤ 90000 := by
  obtain ⟨h1, _, h3, _⟩ := chk_ranges hc
  have hA := numsA_len s (Nat.le_refl s.objs.length)
  have hB := nlL_len s (fun z hz => Nat.le_trans (zones_list h3 hz) h1) 11 (by omega)
  have h : (numsD s 7).length ≤ 9000 := by
    simp only [numsD, numsC, numsB, List.length_append, List.length_map, List.length_range]
    omega
  have := Wx.flat_len (numsD s 7)
  rw [bytes_nums] at this
  omega
theorem if_byB {s : StT} (ho : ∀ o ∈ s.objs, ∀ i, i < 18 → i64B (o i)) (hl : ∀ z, z < 11 → ∀ n ∈ s.lists z, i64B n) (hp : ∀ i, i < 18 → i64B (s.pl i)) (hg : ∀ i, i < 7 → i64B (s.gm i)) : byB (if chkS s = 0 then bytesS s else []) := by
  split
  · rename_i h; exact bytes_byB h ho hl hp hg
  · exact byB_nil
end Go.Proofs.YtihbdbgmijkjmaaDoor
namespace Go.Proofs.YtihbdbgmijkjmaaDoor
open Go.RowKit Ex Px Wx
set_option maxRecDepth 100000
def z37 : List Int := List.replicate 37 0
theorem bytes0 : bytesS sT0 = z37 := by decide +kernel
theorem chkS0 : chkS sT0 = 0 := by decide +kernel
theorem make37 (W : World) : (Instr.makeSlice 30 (.int .i64 37) (.int .i64 37)).run Tryd.prog W = .ok (.slice (some ⟨W.heap.size, 0, none⟩) 37 37) (W.alloc (.cells (z37.map (Value.int .u8)).toArray 5)) := by kernel_rfl
theorem z37_at (W : World) : Nums .u8 (W.alloc (.cells (z37.map (Value.int .u8)).toArray 5)) (W.heap.size + 1) (some ⟨W.heap.size, 0, none⟩) 37 z37 := by
  refine ⟨rfl, fun i u hu => ⟨_, rfl, by simp, ?_⟩⟩
  rw [Addr.add_mid, Nat.zero_add, cell_of_row _ W.heap.size i _ 5 (0, 0) (heap_alloc_new W _)]
  simp [hu]
theorem alloc_drew (w : World) (o : Obj) : w.drew.alloc o = (w.alloc o).drew := rfl
set_option linter.unusedSimpArgs false in
set_option maxHeartbeats 0 in
theorem canAlive {z : World} (S : CanSaid z) (w : World) (hzw : Below z.heap.size z w) : Calls Tryd.prog 7 #[] w fun e w' => e = .returned (.bool true) ∧ Below w.heap.size w w' := by
  go_enter Tryd.func7, Tryd.ntmps7
  go_wp2_with (refine wpList_build0 rfl rfl ?_)
  refine (S.bytes sT0 nilS (fun _ => nilS) st0 w (reads_0 _ _) (by simp [sT0]) (fun z _ => by simp [sT0]) hzw).mono ?_
  rintro e w1 ⟨A, n, c, rfl, hN, hc, hb1⟩
  rw [if_pos chkS0, bytes0] at hN
  rw [chkS0, errV_nil]
  obtain rfl : n = 37 := hN.len.symm
  go_upto_region 2 with fail
  have hc1 : ∀ W, Below w1.heap.size w1 W → (convert 30 9 (.slice A 37 c)).run Tryd.prog W = .ok (.string (strOfNums z37)) W := fun W hW => string_at (hN.below hW)
  obtain ⟨t, ht⟩ : ∃ t, t = strOfNums z37 := ⟨_, rfl⟩
  rw [← ht] at hc1
  have HT := Lib.hid ht
  clear ht hN
  refine region_below (by kernel_rfl) (fun hHeld => ?_)
  refine wpAnyH_take (i := 0) (v := ?_) rfl (by kernel_rfl) (by kernel_rfl) (by kernel_rfl) (fun _ _ _ h => h) (Or.inl ⟨by rfl, ?_⟩) hHeld ?_
  rotate_left
  · (intro w hSw; go_simp; (try with_reducible rfl))
  simp only [Act.put, List.getElem_toArray, List.getElem_cons_zero, List.getElem_cons_succ, List.setIfInBounds_toArray, List.set_cons_zero, List.set_cons_succ]
  refine wpAnyH_take (i := 1) (v := ?_) rfl (by kernel_rfl) (by kernel_rfl) (by kernel_rfl) (fun _ _ _ h => h) (Or.inl ⟨by rfl, ?_⟩) hHeld ?_
  rotate_left
  · (intro w hSw; go_simp; (try with_reducible rfl))
  simp only [Act.put, List.getElem_toArray, List.getElem_cons_zero, List.getElem_cons_succ, List.setIfInBounds_toArray, List.set_cons_zero, List.set_cons_succ]
  refine wpAnyH_take (i := 2) (v := ?_) rfl (by kernel_rfl) (by kernel_rfl) (by kernel_rfl) (fun _ _ _ h => h) (Or.inl ⟨by rfl, ?_⟩) hHeld ?_
  rotate_left
  · (intro w hSw; go_simp; (try with_reducible rfl))
  simp only [Act.put, List.getElem_toArray, List.getElem_cons_zero, List.getElem_cons_succ, List.setIfInBounds_toArray, List.set_cons_zero, List.set_cons_succ]
  refine wpAnyH_take (i := 3) (v := ?_) rfl (by kernel_rfl) (by kernel_rfl) (by kernel_rfl) (fun _ _ _ h => h) (Or.inl ⟨by rfl, ?_⟩) hHeld ?_
  rotate_left
  · (intro w hSw; go_simp; (try with_reducible rfl))
  simp only [Act.put, List.getElem_toArray, List.getElem_cons_zero, List.getElem_cons_succ, List.setIfInBounds_toArray, List.set_cons_zero, List.set_cons_succ]
  refine wpAnyH_take (i := 4) (v := ?_) rfl (by kernel_rfl) (by kernel_rfl) (by kernel_rfl) (fun _ _ _ h => h) (Or.inl ⟨by rfl, ?_⟩) hHeld ?_
  rotate_left
  · (intro w hSw; go_simp; (try with_reducible rfl))
  simp only [Act.put, List.getElem_toArray, List.getElem_cons_zero, List.getElem_cons_succ, List.setIfInBounds_toArray, List.set_cons_zero, List.set_cons_succ]
  refine wpAnyH_ready (rs := [5]) (by kernel_rfl) (by simp) ?_
  refine AllReadyH.cons rfl (fun K hK => ?_) AllReadyH.nil
  simp only [List.getElem_toArray, List.getElem_cons_zero, List.getElem_cons_succ]
  simp [Oper.wp, execOp, make37, Result.andThen, Act.eval]
  rw [if_pos (by rfl)]
  have hB1 : Below w1.heap.size w1 (w1.alloc (.cells (z37.map (Value.int .u8)).toArray 5)).drew := ((Below.refl _ _).alloc (Nat.le_refl _) _).drew
  have hN1 : Nums .u8 (w1.alloc (.cells (z37.map (Value.int .u8)).toArray 5)).drew (w1.heap.size + 1) (some ⟨w1.heap.size, 0, none⟩) 37 z37 := (z37_at w1).drew
  go_simp
  refine hK.out _ _ hB1 (fun _ => ?_)
  clear hK K
  try simp only [Act.put, List.setIfInBounds_toArray, List.set_cons_zero, List.set_cons_succ]
  refine anyH_rebase hB1 (fun hHeld => ?_)
  obtain ⟨w2, hw2⟩ : ∃ w2, w2 = (w1.alloc (.cells (z37.map (Value.int .u8)).toArray 5)).drew := ⟨_, rfl⟩
  rw [← hw2] at hHeld hN1 hB1
  rw [← hw2]
  have hc2 : ∀ W, Below w2.heap.size w2 W → (convert 30 9 (.slice (some ⟨w1.heap.size, 0, none⟩) 37 37)).run Tryd.prog W = .ok (.string t) W := fun W hW => by
    rw [HT.out]
    exact string_at ((hN1.more (show _ ≤ w2.heap.size by rw [hw2]; simp)).below hW)
  have ht2 : (t.toList == t.toList) = true := by simp
  clear hw2 hN1
  refine wpAnyH_take (i := 6) (v := ?_) rfl (by kernel_rfl) (by kernel_rfl) (by kernel_rfl) (fun _ _ _ h => h) (Or.inl ⟨by rfl, ?_⟩) hHeld ?_
  rotate_left
  · (intro w hSw; go_simp; (try with_reducible rfl))
  simp only [Act.put, List.getElem_toArray, List.getElem_cons_zero, List.getElem_cons_succ, List.setIfInBounds_toArray, List.set_cons_zero, List.set_cons_succ]
  refine wpAnyH_take (i := 7) (v := ?_) rfl (by kernel_rfl) (by kernel_rfl) (by kernel_rfl) (fun _ _ _ h => h) (Or.inl ⟨by rfl, ?_⟩) hHeld ?_
  rotate_left
  · (intro w hSw; go_simp; (try with_reducible rfl))
  simp only [Act.put, List.getElem_toArray, List.getElem_cons_zero, List.getElem_cons_succ, List.setIfInBounds_toArray, List.set_cons_zero, List.set_cons_succ]
  refine wpAnyH_take (i := 8) (v := ?_) rfl (by kernel_rfl) (by kernel_rfl) (by kernel_rfl) (fun _ _ _ h => h) (Or.inl ⟨by rfl, ?_⟩) hHeld ?_
  rotate_left
  · (intro w hSw; go_simp; (try with_reducible rfl))
  simp only [Act.put, List.getElem_toArray, List.getElem_cons_zero, List.getElem_cons_succ, List.setIfInBounds_toArray, List.set_cons_zero, List.set_cons_succ]
  refine wpAnyH_take (i := 9) (v := ?_) rfl (by kernel_rfl) (by kernel_rfl) (by kernel_rfl) (fun _ _ _ h => h) (Or.inl ⟨by rfl, ?_⟩) hHeld ?_
  rotate_left
  · (intro w hSw; go_simp; (try with_reducible rfl))
  simp only [Act.put, List.getElem_toArray, List.getElem_cons_zero, List.getElem_cons_succ, List.setIfInBounds_toArray, List.set_cons_zero, List.set_cons_succ]
  refine wpAnyH_done (by kernel_rfl) ?_ _
  go_wp2_with fail
  go_ret
  exact ⟨rfl, keepB hB1 hb1⟩
end Go.Proofs.YtihbdbgmijkjmaaDoor
namespace Go.Proofs.YtihbdbgmijkjmaaDoor
open Go.RowKit Ex Px Wx
attribute [local go_sem] arr_get
set_option maxRecDepth 100000
set_option linter.unusedSimpArgs false in
set_option maxHeartbeats 0 in
theorem canonBytes_walk {w : World} (S : CanSaid w) (s : StT) (O : SlT) (L : Nat → SlT) (cs : Array Value) (Ab : Option Addr) (nb cb : Nat) (lb : List Int) (h : ReadsS w.heap.size w cs s O L) (hN : Nums .u8 w w.heap.size Ab nb lb) (hnc : nb ≤ cb) (hb : byB lb) :
    Calls Tryd.prog 3 #[.agg cs, .slice Ab nb cb] w fun e w' => e = .returned (.bool true) ∧ Below w.heap.size w w' := by
  have hcsz := h.size
  go_enter Tryd.func3, Tryd.ntmps3
  have hcs := h.cs
  have c0 : cs[0]? = some (.slice O.A O.n O.c) := by rw [hcs]; exact stC_objs _ _ _ _
  have hOn := h.on
  have hOc := h.oc
  have hO := h.o
  have hsz : (Tryd.prog.info? 29).map (·.size) = some cs.size := by rw [h.size]; exact size37
  have H := Lib.hid h
  clear h
  obtain ⟨A, n, c⟩ := O
  simp only at c0 hOn hOc hO
  have HC := Lib.hid hcs
  clear hcs
  subst hOn
  go_upto_region 1 with fail
  have hs0 : StAt (w.alloc (.cells cs 29)) w.heap.size cs := StAt.new _ _
  have hb0 : Below w.heap.size w (w.alloc (.cells cs 29)) := (Below.refl _ _).alloc (Nat.le_refl _) _
  obtain ⟨w1, hw1⟩ : ∃ w1, w1 = w.alloc (.cells cs 29) := ⟨_, rfl⟩
  rw [← hw1] at hs0 hb0 ⊢
  clear hw1
  have c1 := (hs0.cell 0).trans c0
  go_wp2_with fail
  refine (canAlive S w1 hb0).mono ?_
  rintro e w2 ⟨rfl, hb2⟩
  have hs2 := hs0.keep hb2
  have hbw2 := keepB hb2 hb0
  clear c1 hs0
  go_wp2_with (refine load_wantS (by rfl) (.tmp 2) rfl w.heap.size rfl cs hs2 hcsz ?_)
  have hl := long_any s _ L cs 60 w2 w2.heap.size ((H.out.grow hbw2)) (by omega)
  rw [show ((60 : Nat) : Int) = 60 from rfl] at hl
  refine hl.mono ?_
  clear hl
  rintro e w3 ⟨rfl, hb3⟩
  have hs3 := hs2.keep hb3
  have hbw3 := keepB hb3 hbw2
  clear hb2 hs2 hbw2 hb3 hb0
  by_cases hlg : longS s 60 = true
  · rw [hlg]
    go_wp2_with fail
    go_ret
    exact ⟨rfl, hbw3⟩
  replace hlg : longS s 60 = false := by simpa using hlg
  obtain ⟨hn, hll⟩ := long_not (most := 60) hlg
  rw [hlg]
  clear hlg
  by_cases h5 : 500 < nb
  · have d5 : decide ((500 : Int) < (nb : Int)) = true := decide_eq_true (by omega)
    clear h5
    go_wp2_with fail
    go_ret
    exact ⟨rfl, hbw3⟩
  have d5 : decide ((500 : Int) < (nb : Int)) = false := decide_eq_false (by omega)
  have hn6 : s.objs.length ≤ 1000000 := by omega
  have hl6 : ∀ z < 11, (s.lists z).length ≤ 1000000 := fun z hz => by have := hll z hz; omega
  have hXb := if_byB (s := s) (fun o ho i hi => H.out.ow o ho i hi) (fun z hz n hn => H.out.lw z hz n hn) (fun i hi => H.out.pw i hi) (fun i hi => H.out.gw i hi)
  have HNb := Lib.hid hN
  have HBb := Lib.hid hb
  have HXb := Lib.hid hXb
  clear hN hb hXb hn hll
  go_wp2_with (refine load_wantS (by rfl) (.tmp 2) rfl w.heap.size rfl cs hs3 hcsz ?_)
  refine (S.bytes s _ L cs w3 (H.out.grow hbw3) hn6 hl6 hbw3).mono ?_
  rintro e w4 ⟨A4, n4, c4, rfl, hN4, hc4, hb4⟩
  have hs4 := hs3.keep hb4
  have hbw4 := keepB hb4 hbw3
  clear hb4 hs3
  go_wp2_with (refine load_wantS (by rfl) (.tmp 2) rfl w.heap.size rfl cs hs4 hcsz ?_)
  refine (bytesRef11_any s _ L cs w4 (H.out.grow hbw4) hn6 hl6).mono ?_
  rintro e w5 ⟨A5, n5, c5, rfl, hN5, hc5, hb5⟩
  have hs5 := hs4.keep hb5
  have hbw5 := keepB hb5 hbw4
  have HN4 := Lib.hid ((hN4.below hb5).more hb5.size)
  have HN5 := Lib.hid hN5
  clear hb5 hs4 hN4 hN5
  go_wp2_with (refine load_wantS (by rfl) (.tmp 2) rfl w.heap.size rfl cs hs5 hcsz ?_)
  refine (S.mark s _ L cs w5 (H.out.grow hbw5) hn6 hl6 hbw5).mono ?_
  rintro e w6 ⟨rfl, hb6⟩
  have hbw6 := keepB hb6 hbw5
  have HN46 := Lib.hid ((HN4.out.below hb6).more hb6.size)
  have HN56 := Lib.hid ((HN5.out.below hb6).more hb6.size)
  clear hb6 HN4 HN5 hs5 hbw5 hsz hcsz
  obtain ⟨X, hX⟩ : ∃ X, X = if chkS s = 0 then bytesS s else [] := ⟨_, rfl⟩
  obtain ⟨mk, hmk⟩ : ∃ mk, mk = markS s := ⟨_, rfl⟩
  obtain ⟨q, hq⟩ : ∃ q, q = chkS s := ⟨_, rfl⟩
  have HX := Lib.hid (show (q = 0 → mk = hashB X) ∧ (q ≠ 0 → mk = 0) by
    rw [hX, hmk, hq, markS]
    exact ⟨fun h => by rw [if_pos h, if_pos h], fun h => by rw [if_neg h]⟩)
  have hlX : X.length ≤ 90000 := by
    rw [hX]; split
    · rename_i h; exact bytes_few h
    · simp
  rw [← hX] at HN46 HN56 HXb
  rw [← hq, ← hmk]
  clear hX hmk hq
  have hqq : (q == q) = true := by simp
  have hmm : (mk == mk) = true := by simp
  have hN6 := HNb.out.below hbw6
  have hln := HN56.out.len
  by_cases hq0 : q = 0
  · subst hq0
    have hm := HX.out.1 rfl
    go_wp2_with fail
    refine (hashRef_any A5 n5 c5 X w6 _ HN56.out HXb.out (by omega)).mono ?_
    rintro e w7 ⟨rfl, rfl⟩
    rw [← hm]
    clear hm hln
    go_wp2_with fail
    refine (numBytes_any A4 A5 n4 c4 n5 c5 X X w6 _ _ HN46.out HN56.out HXb.out HXb.out).mono ?_
    rintro e w7 ⟨rfl, rfl⟩
    rw [show decide (X = X) = true from decide_eq_true rfl]
    go_wp2_with fail
    refine (num_by _ w6).mono ?_
    rintro e w7 ⟨rfl, rfl⟩
    go_wp2_with fail
    refine (num_by _ w6).mono ?_
    rintro e w7 ⟨rfl, rfl⟩
    go_wp2_with fail
    refine (S.hash Ab nb cb lb w6 (hN6.more hbw6.size) hnc HBb.out (by omega) hbw6).mono ?_
    rintro e w7 ⟨rfl, hb7⟩
    have hbw7 := keepB hb7 hbw6
    go_wp2_with fail
    refine (hashRef_any Ab nb cb lb w7 _ (HNb.out.below hbw7) HBb.out (by omega)).mono ?_
    rintro e w8 ⟨rfl, rfl⟩
    have hhh : (hashB lb == hashB lb) = true := by simp
    go_wp2_with fail
    go_ret
    exact ⟨rfl, hbw7⟩
  · have hm := HX.out.2 hq0
    subst hm
    have h0 : (q == 0) = false := by simpa using hq0
    clear hln
    go_wp2_with fail
    refine (numBytes_any A4 A5 n4 c4 n5 c5 X X w6 _ _ HN46.out HN56.out HXb.out HXb.out).mono ?_
    rintro e w7 ⟨rfl, rfl⟩
    rw [show decide (X = X) = true from decide_eq_true rfl]
    go_wp2_with fail
    refine (num_by _ w6).mono ?_
    rintro e w7 ⟨rfl, rfl⟩
    go_wp2_with fail
    refine (num_by _ w6).mono ?_
    rintro e w7 ⟨rfl, rfl⟩
    go_wp2_with fail
    refine (S.hash Ab nb cb lb w6 (hN6.more hbw6.size) hnc HBb.out (by omega) hbw6).mono ?_
    rintro e w7 ⟨rfl, hb7⟩
    have hbw7 := keepB hb7 hbw6
    go_wp2_with fail
    refine (hashRef_any Ab nb cb lb w7 _ (HNb.out.below hbw7) HBb.out (by omega)).mono ?_
    rintro e w8 ⟨rfl, rfl⟩
    have hhh : (hashB lb == hashB lb) = true := by simp
    go_wp2_with fail
    go_ret
    exact ⟨rfl, hbw7⟩
end Go.Proofs.YtihbdbgmijkjmaaDoor
