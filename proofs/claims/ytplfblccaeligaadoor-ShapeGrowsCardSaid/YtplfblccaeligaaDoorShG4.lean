/- Layer 10: the laws' Long. Layer 10: a state's memory, read and written: what needs none of the code's calls. Layer 10: a state's box, loaded whole; what is not long. A list of numbers in blocks of the call's own, that may be written into. Layer 10: copies of a state: lists and objects in blocks of the call's own. Layer 17: the laws' fixed fact. -/
import Derived.Test.YtplfblccaeligaaDoorShG3
import Derived.OwnWalk
import Derived.Test.YtplfblccaeligaaDoorReg
import Derived.Test.YtplfblccaeligaaDoorSl
import Derived.Test.YtplfblccaeligaaDoorBase0
import Derived.Deep.MidRow
import Derived.Maps.AppendAt
import Derived.Test.YtplfblccaeligaaDoorShSaid
namespace Go.Proofs.YtplfblccaeligaaDoor
open Go.RowKit Ex
set_option maxRecDepth 100000
def longS (s : StT) (most : Int) : Bool := decide (most < s.objs.length) || (List.range 11).any fun z => decide (most + 10 < ((s.lists z).length : Int))
theorem size11 : (Tryd.prog.info? 24).map (·.size) = some 11 := by kernel_rfl
theorem load_lists {ops : Array Oper} {rest : List Oper} {op : Oper} {a : Act} {w : World} {Q : Exit → Act → World → Prop} (hgd : op.guard = none) (x : Operand) (ho : op.op = .load 24 x)
    (b o : Nat) (hx : a.eval x = .pointer (some ⟨b, o, none⟩)) (xs : Array Value) (hs : xs.size = 11) (h : w.rangeAt b o xs.toList)
    (hK : wpList Tryd.prog ops Q rest (a.put op.dst (.agg xs)) w) : wpList Tryd.prog ops Q (op :: rest) a w := by
  refine wpList_load_mid hgd 24 x ho b o hx xs.toList _ h Tryd.underlying24 rfl (by rw [Array.length_toList, hs]; exact size11) ?_
  rw [Array.toArray_toList]
  exact hK
theorem StAt.ls {w : World} {g : Nat} {O : SlT} {L : Nat → SlT} {p q : Nat → Int} (h : StAt w g (stC O L p q)) : w.rangeAt g 1 (sl11 L).toList := fun i v hv => by
  have hi : i < 11 := by have := (List.getElem?_eq_some_iff.1 hv).1; rw [Array.length_toList, sl11_size] at this; exact this
  rw [Array.getElem?_toList, sl11_get L hi] at hv
  rw [h.cell, stC_list _ _ _ _ hi]
  exact hv
theorem index_list (L : Nat → SlT) : ∀ z : Nat, z < 11 → ∀ w, (Instr.index 24 (.agg (sl11 L)) (.int .i64 (z : Int))).run Tryd.prog w = .ok (L z).v w
  | 0, _, _ => by kernel_rfl
  | 1, _, _ => by kernel_rfl
  | 2, _, _ => by kernel_rfl
  | 3, _, _ => by kernel_rfl
  | 4, _, _ => by kernel_rfl
  | 5, _, _ => by kernel_rfl
  | 6, _, _ => by kernel_rfl
  | 7, _, _ => by kernel_rfl
  | 8, _, _ => by kernel_rfl
  | 9, _, _ => by kernel_rfl
  | 10, _, _ => by kernel_rfl
theorem sl11_at (L : Nat → SlT) {z : Nat} (hz : z < 11) : ∃ A n c, (∀ w, (Instr.index 24 (.agg (sl11 L)) (.int .i64 (z : Int))).run Tryd.prog w = .ok (.slice A n c) w) ∧ n = (L z).n := ⟨_, _, _, index_list L z hz, rfl⟩
def NotL (s : StT) (most : Nat) (z : Nat) : Prop := ∀ y, y < z → decide (((most : Int) + 10) < ((s.lists y).length : Int)) = false
theorem longS_list {s : StT} {most z : Nat} (hz : z < 11) (h : most + 10 < (s.lists z).length) : longS s most = true := by
  have : ((List.range 11).any fun z => decide ((most : Int) + 10 < ((s.lists z).length : Int))) = true := List.any_eq_true.2 ⟨z, List.mem_range.2 hz, by simp; omega⟩
  rw [longS, this, Bool.or_true]
theorem longS_not {s : StT} {most : Nat} (ho : ¬ most < s.objs.length) (h : NotL s most 11) : longS s most = false := by
  have : ((List.range 11).any fun z => decide ((most : Int) + 10 < ((s.lists z).length : Int))) = false := by
    rw [List.any_eq_false]
    intro z hz
    rw [h z (List.mem_range.1 hz)]; simp
  rw [longS, this]
  simp; omega
set_option maxRecDepth 100000 in
set_option maxHeartbeats 0 in
theorem long_any (s : StT) (O : SlT) (L : Nat → SlT) (cs : Array Value) (most : Nat) (w : World) (B : Nat) (h : ReadsS B w cs s O L) (hm : most ≤ 1000) :
    Calls Tryd.prog 8 #[.agg cs, .int .i64 (most : Int)] w fun e w' => e = .returned (.bool (longS s most)) ∧ Below w.heap.size w w' := by
  go_enter Tryd.func8, Tryd.ntmps8
  have hcs := h.cs
  have c0 : cs[0]? = some (.slice O.A O.n O.c) := by rw [hcs]; exact stC_objs _ _ _ _
  have hOn := h.on
  have H := Lib.hid h
  clear h
  obtain ⟨A, n, c⟩ := O
  simp only at c0 hOn
  subst hOn
  have HC := Lib.hid hcs
  clear hcs
  go_upto_region 1 with fail
  have hs0 : StAt (w.alloc (.cells cs 29)) w.heap.size cs := StAt.new _ _
  have hb0 : Below w.heap.size w (w.alloc (.cells cs 29)) := (Below.refl _ _).alloc (Nat.le_refl _) _
  obtain ⟨w1, hw1⟩ : ∃ w1, w1 = w.alloc (.cells cs 29) := ⟨_, rfl⟩
  rw [← hw1] at hs0 hb0 ⊢
  clear hw1
  have c1 := (hs0.cell 0).trans c0
  have hra := hs0
  rw [HC.out] at hra
  have hra := hra.ls
  by_cases h4 : most < s.objs.length
  · have d4 : decide ((most : Int) < (s.objs.length : Int)) = true := by simp; omega
    have hf := Lib.hid (show longS s most = true by simp [longS, h4])
    go_wp2_with fail
    go_ret
    exact ⟨congrArg (fun b => Ending.returned (Value.bool b)) hf.out.symm, hb0⟩
  have d4 : decide ((most : Int) < (s.objs.length : Int)) = false := by simp; omega
  go_upto_region 4 with (refine load_lists rfl (.tmp 12) rfl w.heap.size 1 rfl (sl11 L) (sl11_size L) hra ?_)
  have hg0 : NotL s most 0 := fun y hy => absurd hy (by omega)
  go_loopw [14] (fun i wr => ∃ z : Nat, i = .int .i64 ((z : Nat) : Int) ∧ z ≤ 11 ∧ NotL s most z ∧ Below w.heap.size w wr) (fun i _ => 11 - (intOf i).toNat)
  case atStart => exact ⟨0, rfl, by omega, hg0, hb0⟩
  case round =>
    clear hb0 hs0 hg0 c1
    obtain ⟨z, rfl, hz, hgz, hbr⟩ := hrel
    by_cases hlt : z < 11
    · have hd : decide ((z : Int) < 11) = true := by simp; omega
      obtain ⟨A2, n2, c2, hc2, hn2⟩ := sl11_at L hlt
      have hln := (H.out.l z hlt).len
      rw [← hn2] at hln
      clear hn2
      by_cases hq : most + 10 < n2
      · have dq : decide ((most : Int) + 10 < (n2 : Int)) = true := by simp; omega
        have hf := Lib.hid (longS_list hlt (hln.symm ▸ hq))
        go_wp2_with fail
        go_ret
        exact ⟨congrArg (fun b => Ending.returned (Value.bool b)) hf.out.symm, hbr⟩
      · have dq : decide ((most : Int) + 10 < (n2 : Int)) = false := by simp; omega
        have hgz2 : NotL s most (z + 1) := fun y hy => by
          by_cases e : y = z
          · subst e; rw [hln]; exact dq
          · exact hgz y (by omega)
        go_wp2_with fail
        go_roundw
        case rel => exact ⟨z + 1, by go_num, by omega, hgz2, hbr⟩
        case measure => simp [intOf]; omega
    · obtain rfl : z = 11 := by omega
      have hf := Lib.hid (longS_not h4 hgz)
      go_wp2_with fail
      go_ret
      exact ⟨congrArg (fun b => Ending.returned (Value.bool b)) hf.out.symm, hbr⟩
end Go.Proofs.YtplfblccaeligaaDoor
namespace Go.Proofs.YtplfblccaeligaaDoor
open Go.RowKit Ex
set_option maxRecDepth 100000
/-- Nil eleven times, and zeros. -/
def nilS : SlT := ⟨none, 0, 0⟩
def st0 : Array Value := stC nilS (fun _ => nilS) (fun _ => 0) (fun _ => 0)
def sT0 : StT := ⟨[], fun _ => [], fun _ => 0, fun _ => 0⟩
theorem reads_0 (B : Nat) (w : World) : ReadsS B w st0 sT0 nilS (fun _ => nilS) :=
  ⟨rfl, rfl, Nat.le_refl _, by simp [nilS], fun i o hi => by simp [sT0] at hi, fun z _ => Nums.none_, fun z _ => Nat.le_refl _, fun o ho => by simp [sT0] at ho, fun z _ x hx => by simp [sT0] at hx, fun i _ => by simp [N64, sT0], fun i _ => by simp [N64, sT0]⟩
theorem build0 (W : World) : (Instr.build 29 #[]).run Tryd.prog W = .ok (.agg st0) W := by kernel_rfl
theorem st0_is : (Value.slice none 0 0 :: Value.slice none 0 0 :: Value.slice none 0 0 :: Value.slice none 0 0 :: Value.slice none 0 0 :: Value.slice none 0 0 :: Value.slice none 0 0 :: Value.slice none 0 0 :: Value.slice none 0 0 :: Value.slice none 0 0 :: Value.slice none 0 0 :: Value.slice none 0 0 :: Value.int .i64 0 :: Value.int .i64 0 :: Value.int .i64 0 :: Value.int .i64 0 :: Value.int .i64 0 :: Value.int .i64 0 :: Value.int .i64 0 :: Value.int .i64 0 :: Value.int .i64 0 :: Value.int .i64 0 :: Value.int .i64 0 :: Value.int .i64 0 :: Value.int .i64 0 :: Value.int .i64 0 :: Value.int .i64 0 :: Value.int .i64 0 :: Value.int .i64 0 :: Value.int .i64 0 :: Value.int .i64 0 :: Value.int .i64 0 :: Value.int .i64 0 :: Value.int .i64 0 :: Value.int .i64 0 :: Value.int .i64 0 :: Value.int .i64 0 :: []).toArray = st0 := by kernel_rfl
theorem wpList_build0 {ops : Array Oper} {rest : List Oper} {o : Oper} {a : Act} {w : World} {Q : Exit → Act → World → Prop} (hg : o.guard = none) (ho : o.op = .build 29 #[])
    (hK : wpList Tryd.prog ops Q rest (a.put o.dst (.agg st0)) w) : wpList Tryd.prog ops Q (o :: rest) a w := by
  refine wpList_plain hg fun K' hK' => ?_
  unfold Oper.wp
  simp [execOp, ho, build0, Result.andThen]
  exact hK' _ _ hK
theorem index_obj (f : Nat → Int) : ∀ i : Nat, i < 18 → ∀ w, (Instr.index 37 (.agg (arr .i64 18 f)) (.int .i64 (i : Int))).run Tryd.prog w = .ok (.int .i64 (f i)) w
  | 0, _, _ => by kernel_rfl
  | 1, _, _ => by kernel_rfl
  | 2, _, _ => by kernel_rfl
  | 3, _, _ => by kernel_rfl
  | 4, _, _ => by kernel_rfl
  | 5, _, _ => by kernel_rfl
  | 6, _, _ => by kernel_rfl
  | 7, _, _ => by kernel_rfl
  | 8, _, _ => by kernel_rfl
  | 9, _, _ => by kernel_rfl
  | 10, _, _ => by kernel_rfl
  | 11, _, _ => by kernel_rfl
  | 12, _, _ => by kernel_rfl
  | 13, _, _ => by kernel_rfl
  | 14, _, _ => by kernel_rfl
  | 15, _, _ => by kernel_rfl
  | 16, _, _ => by kernel_rfl
  | 17, _, _ => by kernel_rfl
  | _ + 18, h, _ => absurd h (by omega)
theorem index_nine (f : Nat → Int) : ∀ i : Nat, i < 9 → ∀ w, (Instr.index 25 (.agg (arr .i64 9 f)) (.int .i64 (i : Int))).run Tryd.prog w = .ok (.int .i64 (f i)) w
  | 0, _, _ => by kernel_rfl
  | 1, _, _ => by kernel_rfl
  | 2, _, _ => by kernel_rfl
  | 3, _, _ => by kernel_rfl
  | 4, _, _ => by kernel_rfl
  | 5, _, _ => by kernel_rfl
  | 6, _, _ => by kernel_rfl
  | 7, _, _ => by kernel_rfl
  | 8, _, _ => by kernel_rfl
  | _ + 9, h, _ => absurd h (by omega)
theorem index_seven (f : Nat → Int) : ∀ i : Nat, i < 7 → ∀ w, (Instr.index 27 (.agg (arr .i64 7 f)) (.int .i64 (i : Int))).run Tryd.prog w = .ok (.int .i64 (f i)) w
  | 0, _, _ => by kernel_rfl
  | 1, _, _ => by kernel_rfl
  | 2, _, _ => by kernel_rfl
  | 3, _, _ => by kernel_rfl
  | 4, _, _ => by kernel_rfl
  | 5, _, _ => by kernel_rfl
  | 6, _, _ => by kernel_rfl
  | _ + 7, h, _ => absurd h (by omega)
theorem index_two (f : Nat → Int) : ∀ i : Nat, i < 2 → ∀ w, (Instr.index 26 (.agg (arr .i64 18 f)) (.int .i64 (i : Int))).run Tryd.prog w = .ok (.agg (arr .i64 9 fun j => f (i * 9 + j))) w
  | 0, _, _ => by kernel_rfl
  | 1, _, _ => by kernel_rfl
  | _ + 2, h, _ => absurd h (by omega)
theorem size18p : (Tryd.prog.info? 26).map (·.size) = some 18 := by kernel_rfl
theorem load_two {ops : Array Oper} {rest : List Oper} {op : Oper} {a : Act} {w : World} {Q : Exit → Act → World → Prop} (hgd : op.guard = none) (x : Operand) (ho : op.op = .load 26 x)
    (b o : Nat) (hx : a.eval x = .pointer (some ⟨b, o, none⟩)) (f : Nat → Int) (h : w.rangeAt b o (arr .i64 18 f).toList)
    (hK : wpList Tryd.prog ops Q rest (a.put op.dst (.agg (arr .i64 18 f))) w) : wpList Tryd.prog ops Q (op :: rest) a w := by
  refine wpList_load_mid hgd 26 x ho b o hx (arr .i64 18 f).toList _ h Tryd.underlying26 rfl (by rw [Array.length_toList, arr_size]; exact size18p) ?_
  rw [Array.toArray_toList]
  exact hK
theorem StAt.two {w : World} {g : Nat} {O : SlT} {L : Nat → SlT} {p q : Nat → Int} (h : StAt w g (stC O L p q)) : w.rangeAt g 12 (arr .i64 18 p).toList := fun i v hv => by
  have hi : i < 18 := by have := (List.getElem?_eq_some_iff.1 hv).1; rw [Array.length_toList, arr_size] at this; exact this
  rw [Array.getElem?_toList, arr_get .i64 18 _ hi] at hv
  rw [h.cell, stC_pl _ _ _ _ hi]
  exact hv
theorem load_objW {ops : Array Oper} {rest : List Oper} {op : Oper} {a : Act} {w : World} {Q : Exit → Act → World → Prop} (hw : Region.wanted op (yielded ops a.tmps) = true) (x : Operand) (ho : op.op = .load 37 x)
    (b o : Nat) (hx : a.eval x = .pointer (some ⟨b, o, none⟩)) (f : Nat → Int) (h : w.rangeAt b o (arr .i64 18 f).toList)
    (hK : wpList Tryd.prog ops Q rest (a.put op.dst (.agg (arr .i64 18 f))) w) : wpList Tryd.prog ops Q (op :: rest) a w := by
  refine BigFrame.wpList_want hw fun _ hK' => wp_load_mid 37 x ho b o hx (arr .i64 18 f).toList _ h Tryd.underlying37 rfl (by rw [Array.length_toList, arr_size]; exact st_size18) (hK' _ _ ?_)
  rw [Array.toArray_toList]
  exact hK
theorem list_at {B : Nat} {w : World} {cs : Array Value} {s : StT} {O : SlT} {L : Nat → SlT} (h : ReadsS B w cs s O L) {z : Nat} (hz : z < 11) :
    ∃ A n c, (∀ w, (Instr.index 24 (.agg (sl11 L)) (.int .i64 (z : Int))).run Tryd.prog w = .ok (.slice A n c) w) ∧ n ≤ c ∧ Nums .i64 w B A n (s.lists z) := ⟨_, _, _, index_list L z hz, h.lc z hz, h.l z hz⟩
end Go.Proofs.YtplfblccaeligaaDoor
namespace Go.Proofs.YtplfblccaeligaaDoor
open Go.RowKit Ex
set_option maxRecDepth 100000
/-- A state's box, loaded whole, behind a guard or not. -/
theorem load_wantS {ops : Array Oper} {rest : List Oper} {op : Oper} {a : Act} {w : World} {Q : Exit → Act → World → Prop} (hw : Region.wanted op (yielded ops a.tmps) = true) (x : Operand) (ho : op.op = .load 29 x)
    (g : Nat) (hx : a.eval x = .pointer (some ⟨g, 0, none⟩)) (cs : Array Value) (h : StAt w g cs) (hs : cs.size = 37)
    (hK : wpList Tryd.prog ops Q rest (a.put op.dst (.agg cs)) w) : wpList Tryd.prog ops Q (op :: rest) a w := by
  refine BigFrame.wpList_want hw fun _ hK' => wp_load_row 29 x ho g hx 29 cs (0, 0) _ h Tryd.underlying29 rfl (by rw [hs]; exact size37) (hK' _ _ hK)
theorem yields_st {ops : Array Oper} {S : World → Prop} {op : Oper} {a : Act} (hw : Region.wanted op (yielded ops a.tmps) = true) (x : Operand) (ho : op.op = .load 29 x)
    (g : Nat) (hx : a.eval x = .pointer (some ⟨g, 0, none⟩)) (cs : Array Value) (hs : cs.size = 37) (hS : ∀ w, S w → StAt w g cs) : YieldsIf Tryd.prog ops S op (.agg cs) a := by
  have h := yieldsIf_load_mid (P := Tryd.prog) (S := S) hw 29 x ho g 0 hx cs.toList _ (fun w hSw j v hv => by
    rw [Array.getElem?_toList] at hv
    rw [(hS w hSw).cell, Nat.zero_add]
    exact hv) Tryd.underlying29 rfl (by rw [Array.length_toList, hs]; exact size37)
  rw [Array.toArray_toList] at h
  exact h
/-- What is not long. -/
theorem long_not {s : StT} {most : Nat} (h : longS s most = false) : s.objs.length ≤ most ∧ ∀ z < 11, (s.lists z).length ≤ most + 10 := by
  simp only [longS, Bool.or_eq_false_iff, decide_eq_false_iff_not, List.any_eq_false, List.mem_range, decide_eq_true_eq] at h
  exact ⟨by have := h.1; omega, fun z hz => by have := h.2 z hz; omega⟩
theorem box_new (w : World) (cs : Array Value) : ∃ W, W = (w.alloc (.cells st0 29)).setRow w.heap.size cs ∧ StAt W w.heap.size cs ∧ Below w.heap.size w W :=
  ⟨_, rfl, setRow_heap _ _ _ _ _ _ (heap_alloc_new _ _), below_setRow ((Below.refl _ _).alloc (Nat.le_refl _) _) _ _ (Nat.le_refl _)⟩
end Go.Proofs.YtplfblccaeligaaDoor
namespace Go.Proofs.YtplfblccaeligaaDoor
open Go.RowKit
/-- A list in blocks from base on, that may be written into. -/
def Mine (w : World) (base : Nat) (A : Option Addr) (n c : Nat) (l : List Int) : Prop :=
  Nums .i64 w w.heap.size A n l ∧ n ≤ c ∧ ∀ a, A = some a → ∃ g o cs t, a = ⟨g, o, none⟩ ∧ base ≤ g ∧ w.heap[g]? = some (.cells cs t (0, 0))
theorem Mine.of_own {w : World} {base : Nat} {A : Option Addr} {n c : Nat} {l : List Int} (h : Own .i64 3 w base A n c l) : Mine w base A n c l := by
  refine ⟨h.nums, h.cap, fun a ha => ?_⟩
  rcases h.2.2 with ⟨hv, _⟩ | ⟨g, cap, cur, hv, hb, hg, _⟩
  · injection hv with h1; rw [h1] at ha; cases ha
  · injection hv with h1
    rw [h1] at ha
    injection ha with ha
    exact ⟨g, 0, _, _, ha.symm, hb, hg⟩
theorem Mine.len {w : World} {base : Nat} {A : Option Addr} {n c : Nat} {l : List Int} (h : Mine w base A n c l) : l.length = n := h.1.len
theorem Mine.keep {w w' : World} {base : Nat} {A : Option Addr} {n c : Nat} {l : List Int} (h : Mine w base A n c l) (hb : Below w.heap.size w w') : Mine w' base A n c l := by
  refine ⟨(h.1.below hb).more hb.size, h.2.1, fun a ha => ?_⟩
  obtain ⟨g, o, cs, t, e, h1, h2⟩ := h.2.2 a ha
  exact ⟨g, o, cs, t, e, h1, (hb.block g (Array.getElem?_eq_some_iff.1 h2).1).trans h2⟩
/-- A number of it is written. -/
theorem Mine.set_ {w : World} {base g o n c : Nat} {l : List Int} (h : Mine w base (some ⟨g, o, none⟩) n c l) (i : Nat) (v : Int) : Mine (w.setCell ⟨g, o + i, none⟩ (.int .i64 v)) base (some ⟨g, o, none⟩) n c (l.set i v) := by
  obtain ⟨⟨hl, hN⟩, hc, hA⟩ := h
  obtain ⟨g', o', cs, t, e, h1, h2⟩ := hA _ rfl
  injection e with e1 e2
  subst e1 e2
  refine ⟨⟨by rw [List.length_set]; exact hl, fun j u hu => ⟨_, rfl, by simp [World.setCell]; exact (Array.getElem?_eq_some_iff.1 h2).1, ?_⟩⟩, hc, fun a ha => ⟨g, o, _, t, (Option.some.inj ha).symm, h1, heap_setCell_same w g (o + i) _ _ _ h2⟩⟩
  rw [Addr.add_mid]
  by_cases e : i = j
  · subst e
    have hj : i < l.length := by rw [← List.length_set (i := i) (a := v)]; exact (List.getElem?_eq_some_iff.1 hu).1
    rw [List.getElem?_set_self hj] at hu
    injection hu with hu
    subst hu
    obtain ⟨a, ea, _, hcell⟩ := hN i _ (List.getElem?_eq_getElem hj)
    injection ea with ea
    subst ea
    rw [Addr.add_mid] at hcell
    exact World.cell?_setCell_same (h := hcell) ..
  · rw [List.getElem?_set_ne e] at hu
    obtain ⟨a, ea, _, hcell⟩ := hN j u hu
    injection ea with ea
    subst ea
    rw [Addr.add_mid] at hcell
    rw [World.cell?_setCell_other (h := by intro h; injection h with h1 h2; omega)]
    exact hcell
theorem Mine.other {w : World} {base : Nat} {A : Option Addr} {n c : Nat} {l : List Int} (h : Mine w base A n c l) {g q : Nat} (hg : g < base) (v : Value) : Mine (w.setCell ⟨g, q, none⟩ v) base A n c l := by
  obtain ⟨⟨hl, hN⟩, hc, hA⟩ := h
  refine ⟨⟨hl, fun j u hu => ?_⟩, hc, fun a ha => ?_⟩
  · obtain ⟨a, ea, hb, hcell⟩ := hN j u hu
    obtain ⟨g', o', cs, t, e, h1, h2⟩ := hA a ea
    refine ⟨a, ea, by simpa [World.setCell] using hb, ?_⟩
    rw [World.cell?_setCell_other (h := by
      intro h
      have := congrArg Addr.block h
      rw [addr_block, e] at this
      simp at this
      omega)]
    exact hcell
  · obtain ⟨g', o', cs, t, e, h1, h2⟩ := hA a ha
    exact ⟨g', o', cs, t, e, h1, (heap_setCell_other w ⟨g, q, none⟩ g' v (by simp; omega)).trans h2⟩
/-- All of these blocks stay. -/
def MineA (w : World) (base : Nat) (A : Option Addr) : Prop := ∀ a, A = some a → ∃ g o cs t, a = ⟨g, o, none⟩ ∧ base ≤ g ∧ w.heap[g]? = some (.cells cs t (0, 0))
theorem MineA.stay {w w' : World} {base : Nat} {A : Option Addr} (h : MineA w base A) (hb : ∀ b, base ≤ b → b < w.heap.size → w'.heap[b]? = w.heap[b]?) : MineA w' base A := fun a ha => by
  obtain ⟨g, o, cs, t, e, h1, h2⟩ := h a ha
  exact ⟨g, o, cs, t, e, h1, (hb g h1 (Array.getElem?_eq_some_iff.1 h2).1).trans h2⟩
theorem MineA.base_le {w : World} {base b : Nat} {A : Option Addr} (h : MineA w base A) (hb : b ≤ base) : MineA w b A := fun a ha => by
  obtain ⟨g, o, cs, t, e, h1, h2⟩ := h a ha
  exact ⟨g, o, cs, t, e, by omega, h2⟩
theorem Mine.A {w : World} {base : Nat} {A : Option Addr} {n c : Nat} {l : List Int} (h : Mine w base A n c l) : MineA w base A := h.2.2
theorem Mine.stay {w w' : World} {base : Nat} {A : Option Addr} {n c : Nat} {l : List Int} (h : Mine w base A n c l) (hs : w.heap.size ≤ w'.heap.size) (hb : ∀ b, base ≤ b → b < w.heap.size → w'.heap[b]? = w.heap[b]?) : Mine w' base A n c l := by
  refine ⟨⟨h.1.1, fun i u hu => ?_⟩, h.2.1, MineA.stay h.A hb⟩
  obtain ⟨a, ea, h1, h2⟩ := h.1.2 i u hu
  obtain ⟨g, o, cs, t, e, h3, h4⟩ := h.2.2 a ea
  refine ⟨a, ea, by omega, ?_⟩
  have hg : (a.add i).block = g := by rw [addr_block, e]
  exact (World.cell?_of_block (by rw [hg]; exact hb g h3 (Array.getElem?_eq_some_iff.1 h4).1)).trans h2
end Go.Proofs.YtplfblccaeligaaDoor
namespace Go.Proofs.YtplfblccaeligaaDoor
open Go.RowKit Ex
set_option maxRecDepth 100000
/-- A list in blocks of the call's own. -/
structure SlR (W : World) (base : Nat) (x : SlT) (l : List Int) : Prop where
  N : Nums .i64 W W.heap.size x.A x.n l
  c : x.n ≤ x.c
  f : MineA W base x.A
/-- Objects in blocks of the call's own. -/
structure SlO (W : World) (base : Nat) (x : SlT) (l : List (Nat → Int)) : Prop where
  R : RdO W.heap.size W x.A l
  n : x.n = l.length
  c : x.n ≤ x.c
  m : x.c ≤ maxLen
  f : MineA W base x.A
section
variable {W W' : World} {base : Nat} {x : SlT}
theorem SlR.stay {l : List Int} (h : SlR W base x l) (hs : W.heap.size ≤ W'.heap.size) (hb : ∀ b, base ≤ b → W'.heap[b]? = W.heap[b]?) : SlR W' base x l := by
  refine ⟨⟨h.N.len, fun j u hu => ?_⟩, h.c, h.f.stay fun b h1 _ => hb b h1⟩
  obtain ⟨a, ea, h1, hcell⟩ := h.N.2 j u hu
  obtain ⟨g, o, cs, t, e, h3, h4⟩ := h.f a ea
  exact ⟨a, ea, by omega, (World.cell?_of_block (by rw [addr_block, e]; exact hb _ h3)).trans hcell⟩
theorem SlO.stay {l : List (Nat → Int)} (h : SlO W base x l) (hs : W.heap.size ≤ W'.heap.size) (hb : ∀ b, base ≤ b → W'.heap[b]? = W.heap[b]?) : SlO W' base x l := by
  refine ⟨fun j o ho => ?_, h.n, h.c, h.m, h.f.stay fun b h1 _ => hb b h1⟩
  obtain ⟨b, off, ea, h1, hra⟩ := h.R j o ho
  obtain ⟨g, o2, cs, t, e, h3, h4⟩ := h.f _ ea
  injection e with e1 e2
  subst e1
  exact ⟨b, off, ea, by omega, fun k u hu => (World.cell?_of_block (hb b h3)).trans (hra k u hu)⟩
theorem MineA.keep {w w' : World} {base : Nat} {A : Option Addr} (h : MineA w base A) (hb : Below w.heap.size w w') : MineA w' base A := h.stay fun b _ h2 => hb.block b h2
theorem SlR.keep {l : List Int} (h : SlR W base x l) (hb : Below W.heap.size W W') : SlR W' base x l := ⟨(h.N.below hb).more hb.size, h.c, h.f.keep hb⟩
theorem SlO.keep {l : List (Nat → Int)} (h : SlO W base x l) (hb : Below W.heap.size W W') : SlO W' base x l := ⟨(h.R.below hb).more hb.size, h.n, h.c, h.m, h.f.keep hb⟩
theorem SlR.set_ {l : List Int} (h : SlR W base x l) {g : Nat} (hg : g < base) (i : Nat) (v : Value) : SlR (W.setCell ⟨g, i, none⟩ v) base x l :=
  h.stay (by simp [World.setCell]) fun b hb => heap_setCell_other W ⟨g, i, none⟩ b v (by simp; omega)
theorem SlO.set_ {l : List (Nat → Int)} (h : SlO W base x l) {g : Nat} (hg : g < base) (i : Nat) (v : Value) : SlO (W.setCell ⟨g, i, none⟩ v) base x l :=
  h.stay (by simp [World.setCell]) fun b hb => heap_setCell_other W ⟨g, i, none⟩ b v (by simp; omega)
end
theorem Own.slR {w : World} {base n c : Nat} {A : Option Addr} {l : List Int} (h : Own .i64 3 w base A n c l) : SlR w base ⟨A, n, c⟩ l := ⟨h.nums, h.cap, (Mine.of_own h).A⟩
/-- All cells of objects. -/
def flatO (l : List (Nat → Int)) : List Value := l.flatMap fun o => (arr .i64 18 o).toList
theorem flatO_len (l : List (Nat → Int)) : (flatO l).length = l.length * 18 := by
  induction l with
  | nil => rfl
  | cons x l ih => simp only [flatO, List.flatMap_cons, List.length_append, Array.length_toList, arr_size, List.length_cons] at ih ⊢; omega
theorem flatO_at : ∀ {l : List (Nat → Int)} (i : Nat) (o : Nat → Int), l[i]? = some o → ∀ j v, (arr .i64 18 o).toList[j]? = some v → (flatO l)[i * 18 + j]? = some v
  | [], i, o, h, _, _, _ => by simp at h
  | x :: l, 0, o, h, j, v, hv => by
    simp at h; subst h
    simp only [flatO, List.flatMap_cons, Nat.zero_mul, Nat.zero_add]
    rw [List.getElem?_append_left (List.getElem?_eq_some_iff.1 hv).1]; exact hv
  | x :: l, i + 1, o, h, j, v, hv => by
    have ih := flatO_at (l := l) i o (by simpa using h) j v hv
    simp only [flatO, List.flatMap_cons] at ih ⊢
    rw [List.getElem?_append_right (by rw [Array.length_toList, arr_size]; omega), Array.length_toList, arr_size, show (i + 1) * 18 + j - 18 = i * 18 + j by omega]
    exact ih
theorem flatO_of {l : List (Nat → Int)} {j : Nat} {v : Value} (h : (flatO l)[j]? = some v) : ∃ o, l[j / 18]? = some o ∧ (arr .i64 18 o).toList[j % 18]? = some v := by
  have hj : j < l.length * 18 := by rw [← flatO_len]; exact (List.getElem?_eq_some_iff.1 h).1
  have hq : j / 18 < l.length := by omega
  refine ⟨l[j / 18], List.getElem?_eq_getElem hq, ?_⟩
  have hr : j % 18 < (arr .i64 18 l[j / 18]).toList.length := by rw [Array.length_toList, arr_size]; omega
  rw [List.getElem?_eq_getElem hr]
  have := flatO_at (j / 18) _ (List.getElem?_eq_getElem hq) (j % 18) _ (List.getElem?_eq_getElem hr)
  rw [show j / 18 * 18 + j % 18 = j by omega] at this
  exact this.symm.trans h
theorem flatO_one (l : List (Nat → Int)) : ∀ u ∈ flatO l, u.oneCell' = true := fun u hu => by
  obtain ⟨o, _, h⟩ := List.mem_flatMap.1 hu
  obtain ⟨i, hi, rfl⟩ := List.getElem_of_mem h
  have h1 := Array.all_eq_true'.1 (arr_one .i64 18 o) ((arr .i64 18 o).toList[i]) (by simp)
  exact h1
theorem info_obj : (Tryd.prog.info? 37).map (fun i => (i.zero, i.size, i.bytes)) = some (some (.agg (arr .i64 18 fun _ => 0)), 18, 144) := by kernel_rfl
theorem st_info_int : (Tryd.prog.info? 3).map (fun i => (i.zero, i.size, i.bytes)) = some (some (.int .i64 0), 1, 8) := by kernel_rfl
theorem slO_of_own {w : World} {base : Nat} {v : Value} {n : Nat} {l : List (Nat → Int)} (h : w.ownsRow base 37 18 v n (flatO l)) (hn : n = l.length) : ∃ A c, v = .slice A n c ∧ SlO w base ⟨A, n, c⟩ l := by
  have h' := h
  rcases h.2 with ⟨rfl, hz⟩ | ⟨g, cap, cur, rfl, hb, hg, hc, hm, _⟩
  · subst hz
    have hl : l = [] := List.length_eq_zero_iff.1 hn.symm
    subst hl
    exact ⟨none, 0, rfl, ⟨fun i o hi => by simp at hi, rfl, Nat.le_refl _, Nat.zero_le _, fun a ha => by cases ha⟩⟩
  · refine ⟨some ⟨g, 0, none⟩, cap, rfl, ⟨fun i o hi => ⟨g, 0, rfl, (Array.getElem?_eq_some_iff.1 hg).1, fun j u hu => ?_⟩, hn, hc, hm, ?_⟩⟩
    · have := h'.cells (g := g) rfl (i * 18 + j) u (flatO_at i o hi j u hu)
      rw [Addr.add_mid, ← Nat.add_assoc] at this
      exact this
    · exact fun a ha => ⟨g, 0, cur, _, (Option.some.inj ha).symm, hb, hg⟩
/-- append of any objects to none. -/
theorem wpList_appO {ops : Array Oper} {rest : List Oper} {o : Oper} {a : Act} {w : World} {Q : Exit → Act → World → Prop} (hgd : o.guard = none) (s x : Operand)
    (ho : o.op = .call { callee := .builtin .append, args := #[s, x], argTypes := #[22, 22] })
    (base : Nat) (A : Option Addr) (c : Nat) (hs : a.eval s = .slice A 0 c) (h : w.ownsRow base 37 18 (.slice A 0 c) 0 [])
    (B : Nat) (A2 : Option Addr) (m c2 : Nat) (l : List (Nat → Int)) (hx : a.eval x = .slice A2 m c2) (hr : RdO B w A2 l) (hl : m = l.length) (hn : m ≤ 1000000) (hbase : base ≤ w.heap.size)
    (hK : ∀ A' c' w', SlO w' base ⟨A', m, c'⟩ l → w.grownBy w' (Value.slice A 0 c).ownBlock → wpList Tryd.prog ops Q rest (a.put o.dst (.slice A' m c')) w') :
    wpList Tryd.prog ops Q (o :: rest) a w := by
  obtain ⟨i0, hi, hz0, hz1, hz2⟩ := info_parts info_obj
  rcases A2 with _ | ad
  · have hl0 : l = [] := by
      cases l with
      | nil => rfl
      | cons y r => obtain ⟨b, off, e, _⟩ := hr 0 y rfl; cases e
    subst hl0
    obtain rfl : m = 0 := hl
    have hrun : (Builtin.append_ #[22, 22] o.type #[.slice A 0 c, .slice none 0 c2]).run Tryd.prog w = .ok (.slice A 0 c) w := by
      rcases h.2 with ⟨hv, _⟩ | ⟨g, cap, cur, hv, _, _, hnc, _⟩
      · rw [hv]
        simp [Builtin.append_, run_underlying Tryd.underlying22, sizeOf, typeInfo, hi, Builtin.lenOf, Builtin.firstCells]
      · rw [hv]
        simp [Builtin.append_, run_underlying Tryd.underlying22, sizeOf, typeInfo, hi, Builtin.lenOf, Builtin.firstCells, hnc, storeCells]
    obtain ⟨A', c', e, hso⟩ := slO_of_own (l := []) h rfl
    injection e with e1 _ e3
    subst e1 e3
    refine wpList_plain hgd fun K hK' => ?_
    unfold Oper.wp execOp
    simp only [ho, resolve, invoke, builtin, Sem.run_bind, Sem.run_pure, Result.andThen_ok, List.map_toArray, List.map_cons, List.map_nil, hs, hx, hrun]
    exact hK' _ _ (hK A c w hso (World.grownBy.refl w _))
  · refine wpList_append_own_at w hgd s x 22 ho base 37 i0 _ 18 144 Tryd.underlying22 hi hz0 hz1 hz2 (show (arr .i64 18 fun _ => 0).size = 18 by rw [arr_size]) (by omega) _ 0 [] hs h ad m c2 (flatO l) hx (by rw [flatO_len, hl])
      (fun j u hj => ?_) (flatO_one l) (by unfold maxLen; omega) (by omega) hbase ?_
    · obtain ⟨o, h1, h2⟩ := flatO_of hj
      obtain ⟨b, off, ea, _, hra⟩ := hr _ _ h1
      injection ea with ea
      subst ea
      rw [Addr.add_mid, show off + j = off + j / 18 * 18 + j % 18 by omega]
      exact hra _ _ h2
    · intro v' w' hown hgr _ _
      rw [Nat.zero_add, List.nil_append] at hown
      obtain ⟨A', c', rfl, hso⟩ := slO_of_own hown hl
      exact hK A' c' w' hso hgr
theorem obj_nil (w : World) (base : Nat) : w.ownsRow base 37 18 (.slice none 0 0) 0 [] := World.ownsRow_nil w base _ 18
theorem obj_empty (w : World) (base : Nat) (hb : base ≤ w.heap.size) : (w.alloc (.cells #[] 37)).ownsRow base 37 18 (.slice (some ⟨w.heap.size, 0, none⟩) 0 0) 0 [] :=
  World.ownsRow_made w #[] 0 hb (by unfold maxLen; omega) (by simp)
/-- A list's place is written in a state's cells. -/
def updS (L : Nat → SlT) (z : Nat) (x : SlT) : Nat → SlT := fun i => if i = z then x else L i
theorem stC_set_objs (O x : SlT) (L : Nat → SlT) (p g : Nat → Int) : (stC O L p g).setIfInBounds 0 x.v = stC x L p g := by
  refine Array.ext (by simp [stC_size]) fun i h1 h2 => ?_
  rw [← Option.some_inj, ← Array.getElem?_eq_getElem, ← Array.getElem?_eq_getElem, Array.getElem?_setIfInBounds]
  have hi : i < 37 := by simpa [stC_size] using h2
  by_cases e : 0 = i
  · subst e; rw [if_pos rfl, stC_objs]; simp [stC_size]
  · rw [if_neg e]
    by_cases e2 : i < 12
    · obtain ⟨z, rfl⟩ : ∃ z, i = 1 + z := ⟨i - 1, by omega⟩
      rw [stC_list _ _ _ _ (by omega), stC_list _ _ _ _ (by omega)]
    · by_cases e3 : i < 30
      · obtain ⟨z, rfl⟩ : ∃ z, i = 12 + z := ⟨i - 12, by omega⟩
        rw [stC_pl _ _ _ _ (by omega), stC_pl _ _ _ _ (by omega)]
      · obtain ⟨z, rfl⟩ : ∃ z, i = 30 + z := ⟨i - 30, by omega⟩
        rw [stC_gm _ _ _ _ (by omega), stC_gm _ _ _ _ (by omega)]
theorem stC_set_list (O x : SlT) (L : Nat → SlT) (p g : Nat → Int) {z : Nat} (hz : z < 11) : (stC O L p g).setIfInBounds (1 + z) x.v = stC O (updS L z x) p g := by
  refine Array.ext (by simp [stC_size]) fun i h1 h2 => ?_
  rw [← Option.some_inj, ← Array.getElem?_eq_getElem, ← Array.getElem?_eq_getElem, Array.getElem?_setIfInBounds]
  have hi : i < 37 := by simpa [stC_size] using h2
  by_cases e : 1 + z = i
  · subst e; rw [if_pos rfl, stC_list _ _ _ _ hz]; simp [stC_size, updS]; omega
  · rw [if_neg e]
    by_cases e0 : i = 0
    · subst e0; rw [stC_objs, stC_objs]
    by_cases e2 : i < 12
    · obtain ⟨y, rfl⟩ : ∃ y, i = 1 + y := ⟨i - 1, by omega⟩
      rw [stC_list _ _ _ _ (by omega), stC_list _ _ _ _ (by omega), updS, if_neg (by omega)]
    · by_cases e3 : i < 30
      · obtain ⟨y, rfl⟩ : ∃ y, i = 12 + y := ⟨i - 12, by omega⟩
        rw [stC_pl _ _ _ _ (by omega), stC_pl _ _ _ _ (by omega)]
      · obtain ⟨y, rfl⟩ : ∃ y, i = 30 + y := ⟨i - 30, by omega⟩
        rw [stC_gm _ _ _ _ (by omega), stC_gm _ _ _ _ (by omega)]
theorem stC_set_pl (O : SlT) (L : Nat → SlT) (p g : Nat → Int) {j : Nat} (hj : j < 18) (x : Int) : (stC O L p g).setIfInBounds (12 + j) (.int .i64 x) = stC O L (updI p j x) g := by
  refine Array.ext (by simp [stC_size]) fun i h1 h2 => ?_
  rw [← Option.some_inj, ← Array.getElem?_eq_getElem, ← Array.getElem?_eq_getElem, Array.getElem?_setIfInBounds]
  have hi : i < 37 := by simpa [stC_size] using h2
  by_cases e : 12 + j = i
  · subst e; rw [if_pos rfl, stC_pl _ _ _ _ hj]; simp [stC_size, updI]; omega
  · rw [if_neg e]
    by_cases e0 : i = 0
    · subst e0; rw [stC_objs, stC_objs]
    by_cases e2 : i < 12
    · obtain ⟨y, rfl⟩ : ∃ y, i = 1 + y := ⟨i - 1, by omega⟩
      rw [stC_list _ _ _ _ (by omega), stC_list _ _ _ _ (by omega)]
    · by_cases e3 : i < 30
      · obtain ⟨y, rfl⟩ : ∃ y, i = 12 + y := ⟨i - 12, by omega⟩
        rw [stC_pl _ _ _ _ (by omega), stC_pl _ _ _ _ (by omega), updI, if_neg (by omega)]
      · obtain ⟨y, rfl⟩ : ∃ y, i = 30 + y := ⟨i - 30, by omega⟩
        rw [stC_gm _ _ _ _ (by omega), stC_gm _ _ _ _ (by omega)]
theorem stC_set_gm (O : SlT) (L : Nat → SlT) (p g : Nat → Int) {j : Nat} (hj : j < 7) (x : Int) : (stC O L p g).setIfInBounds (30 + j) (.int .i64 x) = stC O L p (updI g j x) := by
  refine Array.ext (by simp [stC_size]) fun i h1 h2 => ?_
  rw [← Option.some_inj, ← Array.getElem?_eq_getElem, ← Array.getElem?_eq_getElem, Array.getElem?_setIfInBounds]
  have hi : i < 37 := by simpa [stC_size] using h2
  by_cases e : 30 + j = i
  · subst e; rw [if_pos rfl, stC_gm _ _ _ _ hj]; simp [stC_size, updI]; omega
  · rw [if_neg e]
    by_cases e0 : i = 0
    · subst e0; rw [stC_objs, stC_objs]
    by_cases e2 : i < 12
    · obtain ⟨y, rfl⟩ : ∃ y, i = 1 + y := ⟨i - 1, by omega⟩
      rw [stC_list _ _ _ _ (by omega), stC_list _ _ _ _ (by omega)]
    · by_cases e3 : i < 30
      · obtain ⟨y, rfl⟩ : ∃ y, i = 12 + y := ⟨i - 12, by omega⟩
        rw [stC_pl _ _ _ _ (by omega), stC_pl _ _ _ _ (by omega)]
      · obtain ⟨y, rfl⟩ : ∃ y, i = 30 + y := ⟨i - 30, by omega⟩
        rw [stC_gm _ _ _ _ (by omega), stC_gm _ _ _ _ (by omega), updI, if_neg (by omega)]
theorem stC_congr (O : SlT) (L : Nat → SlT) {p p' q q' : Nat → Int} (h : ∀ i, i < 18 → p i = p' i) (h' : ∀ i, i < 7 → q i = q' i) : stC O L p q = stC O L p' q' := by
  unfold stC; rw [arr_congr h, arr_congr h']
/-- A box in the making: the first k lists are copied. -/
structure CpS (w : World) (g base : Nat) (s : StT) (L0 : Nat → SlT) (O : SlT) (L : Nat → SlT) (k : Nat) (W : World) : Prop where
  b : Below w.heap.size w W
  r : ∀ z, k ≤ z → L z = L0 z
  a : StAt W g (stC O L s.pl s.gm)
  o : SlO W base O s.objs
  l : ∀ z, z < k → SlR W base (L z) (s.lists z)
section
variable {w : World} {g base : Nat} {s : StT} {O : SlT} {L0 L : Nat → SlT} {k : Nat} {W W' : World}
theorem CpS.keep (h : CpS w g base s L0 O L k W) (hb : Below W.heap.size W W') : CpS w g base s L0 O L k W' := ⟨keepB hb h.b, h.r, h.a.keep hb, h.o.keep hb, fun z hz => (h.l z hz).keep hb⟩
theorem CpS.next (h : CpS w g base s L0 O L k W) (hk : k < 11) (hwg : w.heap.size ≤ g) (hg : g < base) {x : SlT} (hx : SlR W base x (s.lists k)) : CpS w g base s L0 O (updS L k x) (k + 1) (W.setCell ⟨g, 1 + k, none⟩ x.v) := by
  refine ⟨h.b.setCell (by simpa using hwg) _, fun z hz => (if_neg (by omega)).trans (h.r z (by omega)), ?_, h.o.set_ hg _ _, fun z hz => ?_⟩
  · unfold StAt
    rw [heap_setCell_same W g (1 + k) _ _ _ h.a, stC_set_list _ _ _ _ _ hk]
  · by_cases e : z = k
    · subst e; simp only [updS, if_pos]; exact hx.set_ hg _ _
    · simp only [updS, if_neg e]; exact (h.l z (by omega)).set_ hg _ _
theorem CpS.start {O1 : SlT} (hb : Below w.heap.size w W) (ha : StAt W g (stC O1 L0 s.pl s.gm)) (hwg : w.heap.size ≤ g) (hg : g < base) (ho : SlO W base O s.objs) : CpS w g base s L0 O L0 0 (W.setCell ⟨g, 0, none⟩ O.v) := by
  refine ⟨hb.setCell (by simpa using hwg) _, fun _ _ => rfl, ?_, ho.set_ hg _ _, fun z hz => absurd hz (by omega)⟩
  unfold StAt
  rw [heap_setCell_same W g 0 _ _ _ ha, stC_set_objs]
end
/-- What a copy answers: the same state, in blocks of its own. -/
def CopyR (w : World) (s : StT) (cs : Array Value) (W : World) : Prop := ∃ O L, ReadsS W.heap.size W cs s O L ∧ MineA W w.heap.size O.A ∧ (∀ z < 11, MineA W w.heap.size (L z).A) ∧ Below w.heap.size w W
theorem CpS.copy {w : World} {g base : Nat} {s : StT} {O : SlT} {L0 L : Nat → SlT} {W : World} (h : CpS w g base s L0 O L 11 W) (hR : ∀ o ∈ s.objs, ∀ i < 18, N64 (o i)) (hl : ∀ z < 11, ∀ x ∈ s.lists z, N64 x) (hp : ∀ i < 18, N64 (s.pl i)) (hgm : ∀ i < 7, N64 (s.gm i))
    {r : Nat} (hr : w.heap.size ≤ r) (hrg : r < base) : CopyR w s (stC O L s.pl s.gm) (W.setRow r (stC O L s.pl s.gm)) := by
  have hb : ∀ b, base ≤ b → (W.setRow r (stC O L s.pl s.gm)).heap[b]? = W.heap[b]? := fun b hb => setRow_other W r b _ (by omega)
  have hs : W.heap.size ≤ (W.setRow r (stC O L s.pl s.gm)).heap.size := by simp
  have ho := h.o.stay hs hb
  have hls := fun z hz => (h.l z hz).stay hs hb
  exact ⟨O, L, ⟨rfl, ho.n, ho.c, ho.m, ho.R, fun z hz => (hls z hz).N, fun z hz => (hls z hz).c, hR, hl, hp, hgm⟩, ho.f.base_le (by omega), fun z hz => (hls z hz).f.base_le (by omega), below_setRow h.b r _ hr⟩
end Go.Proofs.YtplfblccaeligaaDoor
namespace Go.Proofs.YtplfblccaeligaaDoor
open Go.RowKit Ex Mx
set_option maxRecDepth 100000
/-- The fact's two objects, its state. -/
def oC (c : Int) : Nat → Int := fun i => if i = 0 then c else if i = 3 then 8 else 0
def abF : Nat → Int := fun i => if i < 18 then oC 10 i else oC 84 (i - 18)
def sAB : StT := ⟨[oC 10, oC 84], fun z => if z = 8 then [0, 1] else [], fun _ => 0, fun _ => 0⟩
def OAB (g : Nat) : SlT := ⟨some ⟨g, 0, none⟩, 2, 2⟩
def LAB (g : Nat) : Nat → SlT := updS (fun _ => nilS) 8 ⟨some ⟨g, 0, none⟩, 2, 2⟩
def stA0 (g : Nat) : Array Value := stC (OAB g) (fun _ => nilS) (fun _ => 0) (fun _ => 0)
def stA1 (g k : Nat) : Array Value := stC (OAB g) (LAB k) (fun _ => 0) (fun _ => 0)
theorem of_AB1 : ofT sAB 0 = (2, 2, 1) := by kernel_rfl
theorem of_AB2 : ofE sAB 0 = 0 := by kernel_rfl
theorem build_oC1 (W : World) : (Instr.build 37 #[(0, .int .i64 10), (3, .int .i64 8)]).run Tryd.prog W = .ok (.agg (arr .i64 18 (oC 10))) W := by kernel_rfl
theorem build_oC2 (W : World) : (Instr.build 37 #[(0, .int .i64 84), (3, .int .i64 8)]).run Tryd.prog W = .ok (.agg (arr .i64 18 (oC 84))) W := by kernel_rfl
theorem wpList_buildC1 {ops : Array Oper} {rest : List Oper} {o : Oper} {a : Act} {w : World} {Q : Exit → Act → World → Prop} (hg : o.guard = none) (ho : o.op = .build 37 #[(0, .const (.int .i64 10)), (3, .const (.int .i64 8))])
    (hK : wpList Tryd.prog ops Q rest (a.put o.dst (.agg (arr .i64 18 (oC 10)))) w) : wpList Tryd.prog ops Q (o :: rest) a w := by
  refine wpList_plain hg fun K' hK' => ?_
  unfold Oper.wp
  have hev : ∀ v, a.eval (.const v) = v := fun _ => rfl
  simp [execOp, ho, hev, build_oC1, Result.andThen]
  exact hK' _ _ hK
theorem wpList_buildC2 {ops : Array Oper} {rest : List Oper} {o : Oper} {a : Act} {w : World} {Q : Exit → Act → World → Prop} (hg : o.guard = none) (ho : o.op = .build 37 #[(0, .const (.int .i64 84)), (3, .const (.int .i64 8))])
    (hK : wpList Tryd.prog ops Q rest (a.put o.dst (.agg (arr .i64 18 (oC 84)))) w) : wpList Tryd.prog ops Q (o :: rest) a w := by
  refine wpList_plain hg fun K' hK' => ?_
  unfold Oper.wp
  have hev : ∀ v, a.eval (.const v) = v := fun _ => rfl
  simp [execOp, ho, hev, build_oC2, Result.andThen]
  exact hK' _ _ hK
theorem buildSlice_AB (W : World) : (Instr.buildSlice 22 2 #[(0, .agg (arr .i64 18 (oC 10))), (1, .agg (arr .i64 18 (oC 84)))]).run Tryd.prog W = .ok (.slice (some ⟨W.heap.size, 0, none⟩) 2 2) (W.alloc (.cells (arr .i64 36 abF) 37)) := by kernel_rfl
theorem wpList_buildSliceAB {ops : Array Oper} {rest : List Oper} {o : Oper} {a : Act} {w : World} {Q : Exit → Act → World → Prop} (hg : o.guard = none) (x y : Operand) (ho : o.op = .buildSlice 22 2 #[(0, x), (1, y)])
    (hx : a.eval x = .agg (arr .i64 18 (oC 10))) (hy : a.eval y = .agg (arr .i64 18 (oC 84))) (hK : wpList Tryd.prog ops Q rest (a.put o.dst (.slice (some ⟨w.heap.size, 0, none⟩) 2 2)) (w.alloc (.cells (arr .i64 36 abF) 37))) : wpList Tryd.prog ops Q (o :: rest) a w := by
  refine wpList_plain hg fun K' hK' => ?_
  unfold Oper.wp
  simp [execOp, ho, hx, hy, buildSlice_AB, Result.andThen]
  exact hK' _ _ hK
theorem build_stA (g : Nat) (W : World) : (Instr.build 29 #[(0, .slice (some ⟨g, 0, none⟩) 2 2)]).run Tryd.prog W = .ok (.agg (stA0 g)) W := by kernel_rfl
theorem wpList_buildSA {ops : Array Oper} {rest : List Oper} {o : Oper} {a : Act} {w : World} {Q : Exit → Act → World → Prop} (hg : o.guard = none) (x : Operand) (ho : o.op = .build 29 #[(0, x)])
    (g : Nat) (hx : a.eval x = .slice (some ⟨g, 0, none⟩) 2 2) (hK : wpList Tryd.prog ops Q rest (a.put o.dst (.agg (stA0 g))) w) : wpList Tryd.prog ops Q (o :: rest) a w := by
  refine wpList_plain hg fun K' hK' => ?_
  unfold Oper.wp
  simp [execOp, ho, hx, build_stA, Result.andThen]
  exact hK' _ _ hK
theorem reads_AB {w : World} {g k : Nat} {t u : TypeId} (h : w.heap[g]? = some (.cells (arr .i64 36 abF) t (0, 0))) (hk : w.heap[k]? = some (.cells #[.int .i64 0, .int .i64 1] u (0, 0))) {B : Nat} (hB : g < B) (hkB : k < B) : ReadsS B w (stA1 g k) sAB (OAB g) (LAB k) := by
  have hcell : ∀ i, i < 36 → w.cell? ⟨g, i, none⟩ = some (.int .i64 (abF i)) := fun i hi => (cell_of_row w g i _ _ _ h).trans (arr_get .i64 36 abF hi)
  refine ⟨rfl, rfl, Nat.le_refl _, by simp [OAB, maxLen], fun i o hi => ?_, fun z hz => ?_, fun z hz => ?_, fun o ho => ?_, fun z _ x hx => ?_, fun i _ => by simp [N64, sAB], fun i _ => by simp [N64, sAB]⟩
  · refine ⟨g, 0, rfl, hB, fun j v hv => ?_⟩
    have hj : j < 18 := by
      have := (List.getElem?_eq_some_iff.1 hv).1
      simpa [arr_size] using this
    rw [Array.getElem?_toList, arr_get .i64 18 o hj] at hv
    injection hv with hv
    match i, hi with
    | 0, hi =>
      simp only [sAB, List.getElem?_cons_zero, Option.some.injEq] at hi
      subst hi
      rw [show 0 + 0 * 18 + j = j by omega, hcell j (by omega), ← hv]
      simp [abF, hj]
    | 1, hi =>
      simp only [sAB, List.getElem?_cons_succ, List.getElem?_cons_zero, Option.some.injEq] at hi
      subst hi
      rw [show 0 + 1 * 18 + j = 18 + j by omega, hcell (18 + j) (by omega), ← hv]
      unfold abF
      rw [if_neg (by omega), show 18 + j - 18 = j by omega]
  · by_cases e : z = 8
    · subst e
      refine ⟨rfl, fun i u hi => ⟨⟨k, 0, none⟩, rfl, hkB, ?_⟩⟩
      match i, hi with
      | 0, hi =>
        simp [sAB] at hi; subst hi
        exact cell_of_row w k 0 _ _ _ hk
      | 1, hi =>
        simp [sAB] at hi; subst hi
        exact cell_of_row w k 1 _ _ _ hk
    · have e1 : sAB.lists z = [] := by simp [sAB, e]
      have e2 : LAB k z = nilS := by simp [LAB, updS, e]
      rw [e1, e2]; exact Nums.none_
  · by_cases e : z = 8
    · subst e; exact Nat.le_refl _
    · have e2 : LAB k z = nilS := by simp [LAB, updS, e]
      rw [e2]; exact Nat.le_refl _
  · simp [sAB] at ho
    intro i _
    rcases ho with rfl | rfl
    all_goals
      unfold oC N64
      split
      · omega
      · split <;> omega
  · simp only [sAB] at hx
    split at hx
    · simp at hx; rcases hx with rfl | rfl <;> (unfold N64; omega)
    · simp at hx
theorem build_shA (W : World) : (Instr.build 38 #[(0, .int .i64 2), (1, .int .i64 2), (2, .int .i64 1)]).run Tryd.prog W = .ok (.agg #[.int .i64 2, .int .i64 2, .int .i64 1]) W := by kernel_rfl
set_option linter.unusedSimpArgs false in
set_option maxHeartbeats 0 in
theorem shAlive {z : World} (E : ShSaid z) (w : World) (hzw : Below z.heap.size z w) : Calls Tryd.prog 7 #[] w fun e w' => e = .returned (.bool true) ∧ Below w.heap.size w w' := by
  have hz := st0_is
  go_enter Tryd.func7, Tryd.ntmps7
  go_upto_region 1 with fail
  obtain ⟨w1, hw1⟩ : ∃ w1, w1 = w.alloc (.cells (arr .i64 36 abF) 37) := ⟨_, rfl⟩
  have ho1 : w1.heap[w.heap.size]? = some (.cells (arr .i64 36 abF) 37 (0, 0)) := by rw [hw1]; exact heap_alloc_new _ _
  have hb1 : Below w.heap.size w w1 := by rw [hw1]; exact (Below.refl _ _).alloc (Nat.le_refl _) _
  have HW1 := Lib.hid hw1
  clear hw1
  have hsg : (stA0 w.heap.size).size = 37 := stC_size _ _ _ _
  have hnew : (w1.alloc (.cells st0 29)).heap[w1.heap.size]? = some (.cells st0 29 (0, 0)) := heap_alloc_new _ _
  have hsz : (Tryd.prog.info? 29).map (·.size) = some (stA0 w.heap.size).size := by rw [hsg]; exact size37
  have hs0 : st0.size = (stA0 w.heap.size).size := by rw [hsg, show st0.size = 37 from stC_size _ _ _ _]
  have hone : (stA0 w.heap.size).all (·.oneCell') = true := stC_one _ _ _ _
  go_upto_region 2 with (first
    | (refine wpList_buildC1 rfl rfl ?_)
    | (refine wpList_buildC2 rfl rfl ?_)
    | (refine wpList_buildSliceAB rfl (.tmp 4) (.tmp 5) rfl rfl rfl ?_; rw [← HW1.out])
    | (refine wpList_buildSA rfl (.tmp 6) rfl w.heap.size rfl ?_)
    | (refine wpList_store_row rfl 29 (.tmp 1) (.tmp 7) rfl w1.heap.size _ rfl rfl 29 st0 hnew hsz hs0 hone ?_))
  have hb2 : Below w1.heap.size w1 ((w1.alloc (.cells st0 29)).setRow w1.heap.size (stA0 w.heap.size)) := below_setRow ((Below.refl _ _).alloc (Nat.le_refl _) _) _ _ (Nat.le_refl _)
  have hg2 : StAt ((w1.alloc (.cells st0 29)).setRow w1.heap.size (stA0 w.heap.size)) w1.heap.size (stA0 w.heap.size) := setRow_heap _ _ _ _ _ _ hnew
  obtain ⟨w2, hw2⟩ : ∃ w2, w2 = (w1.alloc (.cells st0 29)).setRow w1.heap.size (stA0 w.heap.size) := ⟨_, rfl⟩
  rw [← hw2] at hb2 hg2
  rw [← hw2]
  clear hw2 hnew HW1 hz hs0 hone
  obtain ⟨g, hg⟩ : ∃ g, g = w1.heap.size := ⟨_, rfl⟩
  have hgo : w.heap.size < w1.heap.size := (Array.getElem?_eq_some_iff.1 ho1).1
  have ho2 : w2.heap[w.heap.size]? = some (.cells (arr .i64 36 abF) 37 (0, 0)) := (hb2.block _ hgo).trans ho1
  rw [← hg] at hg2
  rw [← hg]
  have HG := Lib.hid hg
  have HB2 := Lib.hid (keepB hb2 hb1)
  have hgw : w.heap.size ≤ g := by omega
  have hlt2 := hg2.lt
  -- the list
  have hcur : w2.cell? ⟨g, 9, none⟩ = some (.slice none 0 0) := by rw [hg2.cell]; exact stC_list _ _ _ _ (z := 8) (by omega)
  have hfr : w2.frozen? ⟨g, 9, none⟩ = false := frozen_of_row w2 g 9 _ _ hg2
  clear ho1 hb1 hb2 hg
  go_upto_region 3 with fail
  obtain ⟨w2', hw2'⟩ : ∃ W, W = w2.setCell ⟨g, 9, none⟩ (.slice (some ⟨w2.heap.size, 0, none⟩) 2 2) := ⟨_, rfl⟩
  obtain ⟨w3, hw3⟩ : ∃ W, W = w2'.alloc (.cells #[.int .i64 0, .int .i64 1] 3) := ⟨_, rfl⟩
  show Code.wp _ _ _ _ ((w2.setCell ⟨g, 9, none⟩ (.slice (some ⟨w2.heap.size, 0, none⟩) 2 2)).alloc (.cells #[.int .i64 0, .int .i64 1] 3))
  rw [← hw2', ← hw3]
  have hsz' : w2'.heap.size = w2.heap.size := by rw [hw2']; simp
  have hal : Below w2'.heap.size w2' w3 := by rw [hw3]; exact (Below.refl _ _).alloc (Nat.le_refl _) _
  have hb2' : Below w.heap.size w w2' := by rw [hw2']; exact HB2.out.setCell (by simpa using hgw) _
  have hb3 : Below w.heap.size w w3 := keepB hal hb2'
  have hg3 : StAt w3 g (stA1 w.heap.size w2.heap.size) := by
    refine StAt.keep ?_ hal
    have h := hg2
    unfold StAt at h ⊢
    rw [hw2', heap_setCell_same _ g 9 _ _ _ h]
    have e : (stA0 w.heap.size).setIfInBounds (1 + 8) (SlT.mk (some ⟨w2.heap.size, 0, none⟩) 2 2).v = stA1 w.heap.size w2.heap.size := stC_set_list (OAB w.heap.size) ⟨some ⟨w2.heap.size, 0, none⟩, 2, 2⟩ (fun _ => nilS) (fun _ => 0) (fun _ => 0) (z := 8) (by omega)
    rw [← e]; rfl
  have ho3 : w3.heap[w.heap.size]? = some (.cells (arr .i64 36 abF) 37 (0, 0)) := by
    refine (hal.block w.heap.size (by omega)).trans ?_
    rw [hw2']
    exact (heap_setCell_other _ ⟨g, 9, none⟩ w.heap.size _ (by have := HG.out; simp; omega)).trans ho2
  have hk3 : w3.heap[w2.heap.size]? = some (.cells #[.int .i64 0, .int .i64 1] 3 (0, 0)) := by
    rw [hw3, ← hsz']
    exact heap_alloc_new _ _
  have hR := reads_AB (B := w3.heap.size) ho3 hk3 (Array.getElem?_eq_some_iff.1 ho3).1 (Array.getElem?_eq_some_iff.1 hk3).1
  obtain ⟨cA, hcA⟩ : ∃ c, c = stA1 w.heap.size w2.heap.size := ⟨_, rfl⟩
  have hsA : cA.size = 37 := by rw [hcA]; exact stC_size _ _ _ _
  have hof := E.of_ sAB _ _ _ 0 w3 hR (by simp [sAB]) (fun z _ => by unfold sAB; dsimp only; split <;> simp) (by unfold N64; omega) (keepB hb3 hzw)
  rw [of_AB1, of_AB2, errV_nil, ← hcA] at hof
  rw [← hcA] at hg3
  have HB3 := Lib.hid hb3
  clear hw3 hw2' hb2' hsz' hal ho3 hk3 hR hcA hg2 ho2 hgo hlt2 hcur hfr hb3 HB2 HG hgw hsg hsz
  go_wp2_with (refine load_wantS (by rfl) (.tmp 1) rfl g rfl _ hg3 hsA ?_)
  refine hof.mono ?_
  rintro en w4 ⟨rfl, hb4⟩
  have HB4 := Lib.hid (keepB hb4 HB3.out)
  clear hof hb4 hg3
  rw [show shV (2, 2, 1) = #[Value.int .i64 2, .int .i64 2, .int .i64 1] from rfl]
  go_wp2_with fail
  go_ret
  exact ⟨rfl, keepB ((Below.refl _ _).alloc (Nat.le_refl _) _) HB4.out⟩
end Go.Proofs.YtplfblccaeligaaDoor
