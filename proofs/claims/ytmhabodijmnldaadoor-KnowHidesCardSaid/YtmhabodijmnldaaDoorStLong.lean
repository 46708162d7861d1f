/- Layer 10: the laws' Long. -/
import Derived.Test.YtmhabodijmnldaaDoorStBase
namespace Go.Proofs.YtmhabodijmnldaaDoor
open Go.RowKit Ex
set_option maxRecDepth 100000
def longS (s : StT) (most : Int) : Bool := decide (most < s.objs.length) || (List.range 11).any fun z => decide (most + 10 < ((s.lists z).length : Int))
theorem size11 : (Tryd.prog.info? 24).map (·.size) = some 11 := by kernel_rfl
theorem load_lists {ops : Array Oper} {rest : List Oper} {op : Oper} {a : Act} {w : World} {Q : Exit → Act → World → Prop} (hgd : op.guard = none) (x : Operand) (ho : op.op = .load 24 x)
    (b o : Nat) (hx : a.eval x = .pointer (some ⟨b, o, none⟩)) (xs : Array Value) (hs : xs.size = 11) (h : w.rangeAt b o xs.toList)
    (hK : wpList Tryd.prog ops Q rest (a.put op.dst (.agg xs)) w) : wpList Tryd.prog ops Q (op :: rest) a w := by
  refine wpList_load_mid hgd 24 x ho b o hx xs.toList _ h Tryd.underlying24 rfl (by rw [Array.length_toList, hs]; exact size11) ?_
  rw [Array.toArray_toList]
  exact hK
theorem StAt.ls {w : World} {g : Nat} {O : SlT} {L : Nat → SlT} {p q : Nat → Int} (h : StAt w g (stC O L p q)) : w.rangeAt g 1 (sl11 L).toList := fun i v hv => by
  have hi : i < 11 := by have := (List.getElem?_eq_some_iff.1 hv).1; rw [Array.length_toList, sl11_size] at this; exact this
  rw [Array.getElem?_toList, sl11_get L hi] at hv
  rw [h.cell, stC_list _ _ _ _ hi]
  exact hv
theorem index_list (L : Nat → SlT) : ∀ z : Nat, z < 11 → ∀ w, (Instr.index 24 (.agg (sl11 L)) (.int .i64 (z : Int))).run Tryd.prog w = .ok (L z).v w
  | 0, _, _ => by kernel_rfl
  | 1, _, _ => by kernel_rfl
  | 2, _, _ => by kernel_rfl
  | 3, _, _ => by kernel_rfl
  | 4, _, _ => by kernel_rfl
  | 5, _, _ => by kernel_rfl
  | 6, _, _ => by kernel_rfl
  | 7, _, _ => by kernel_rfl
  | 8, _, _ => by kernel_rfl
  | 9, _, _ => by kernel_rfl
  | 10, _, _ => by kernel_rfl
theorem sl11_at (L : Nat → SlT) {z : Nat} (hz : z < 11) : ∃ A n c, (∀ w, (Instr.index 24 (.agg (sl11 L)) (.int .i64 (z : Int))).run Tryd.prog w = .ok (.slice A n c) w) ∧ n = (L z).n := ⟨_, _, _, index_list L z hz, rfl⟩
def NotL (s : StT) (most : Nat) (z : Nat) : Prop := ∀ y, y < z → decide (((most : Int) + 10) < ((s.lists y).length : Int)) = false
theorem longS_list {s : StT} {most z : Nat} (hz : z < 11) (h : most + 10 < (s.lists z).length) : longS s most = true := by
  have : ((List.range 11).any fun z => decide ((most : Int) + 10 < ((s.lists z).length : Int))) = true := List.any_eq_true.2 ⟨z, List.mem_range.2 hz, by simp; omega⟩
  rw [longS, this, Bool.or_true]
theorem longS_not {s : StT} {most : Nat} (ho : ¬ most < s.objs.length) (h : NotL s most 11) : longS s most = false := by
  have : ((List.range 11).any fun z => decide ((most : Int) + 10 < ((s.lists z).length : Int))) = false := by
    rw [List.any_eq_false]
    intro z hz
    rw [h z (List.mem_range.1 hz)]; simp
  rw [longS, this]
  simp; omega
set_option maxRecDepth 100000 in
set_option maxHeartbeats 0 in
theorem long_any (s : StT) (O : SlT) (L : Nat → SlT) (cs : Array Value) (most : Nat) (w : World) (B : Nat) (h : ReadsS B w cs s O L) (hm : most ≤ 1000) :
    Calls Tryd.prog 6 #[.agg cs, .int .i64 (most : Int)] w fun e w' => e = .returned (.bool (longS s most)) ∧ Below w.heap.size w w' := by
  go_enter Tryd.func6, Tryd.ntmps6
  have hcs := h.cs
  have c0 : cs[0]? = some (.slice O.A O.n O.c) := by rw [hcs]; exact stC_objs _ _ _ _
  have hOn := h.on
  have H := Lib.hid h
  clear h
  obtain ⟨A, n, c⟩ := O
  simp only at c0 hOn
  subst hOn
  have HC := Lib.hid hcs
  clear hcs
  go_upto_region 1 with fail
  have hs0 : StAt (w.alloc (.cells cs 29)) w.heap.size cs := StAt.new _ _
  have hb0 : Below w.heap.size w (w.alloc (.cells cs 29)) := (Below.refl _ _).alloc (Nat.le_refl _) _
  obtain ⟨w1, hw1⟩ : ∃ w1, w1 = w.alloc (.cells cs 29) := ⟨_, rfl⟩
  rw [← hw1] at hs0 hb0 ⊢
  clear hw1
  have c1 := (hs0.cell 0).trans c0
  have hra := hs0
  rw [HC.out] at hra
  have hra := hra.ls
  by_cases h4 : most < s.objs.length
  · have d4 : decide ((most : Int) < (s.objs.length : Int)) = true := by simp; omega
    have hf := Lib.hid (show longS s most = true by simp [longS, h4])
    go_wp2_with fail
    go_ret
    exact ⟨congrArg (fun b => Ending.returned (Value.bool b)) hf.out.symm, hb0⟩
  have d4 : decide ((most : Int) < (s.objs.length : Int)) = false := by simp; omega
  go_upto_region 4 with (refine load_lists rfl (.tmp 12) rfl w.heap.size 1 rfl (sl11 L) (sl11_size L) hra ?_)
  have hg0 : NotL s most 0 := fun y hy => absurd hy (by omega)
  go_loopw [14] (fun i wr => ∃ z : Nat, i = .int .i64 ((z : Nat) : Int) ∧ z ≤ 11 ∧ NotL s most z ∧ Below w.heap.size w wr) (fun i _ => 11 - (intOf i).toNat)
  case atStart => exact ⟨0, rfl, by omega, hg0, hb0⟩
  case round =>
    clear hb0 hs0 hg0 c1
    obtain ⟨z, rfl, hz, hgz, hbr⟩ := hrel
    by_cases hlt : z < 11
    · have hd : decide ((z : Int) < 11) = true := by simp; omega
      obtain ⟨A2, n2, c2, hc2, hn2⟩ := sl11_at L hlt
      have hln := (H.out.l z hlt).len
      rw [← hn2] at hln
      clear hn2
      by_cases hq : most + 10 < n2
      · have dq : decide ((most : Int) + 10 < (n2 : Int)) = true := by simp; omega
        have hf := Lib.hid (longS_list hlt (hln.symm ▸ hq))
        go_wp2_with fail
        go_ret
        exact ⟨congrArg (fun b => Ending.returned (Value.bool b)) hf.out.symm, hbr⟩
      · have dq : decide ((most : Int) + 10 < (n2 : Int)) = false := by simp; omega
        have hgz2 : NotL s most (z + 1) := fun y hy => by
          by_cases e : y = z
          · subst e; rw [hln]; exact dq
          · exact hgz y (by omega)
        go_wp2_with fail
        go_roundw
        case rel => exact ⟨z + 1, by go_num, by omega, hgz2, hbr⟩
        case measure => simp [intOf]; omega
    · obtain rfl : z = 11 := by omega
      have hf := Lib.hid (longS_not h4 hgz)
      go_wp2_with fail
      go_ret
      exact ⟨congrArg (fun b => Ending.returned (Value.bool b)) hf.out.symm, hbr⟩
end Go.Proofs.YtmhabodijmnldaaDoor
