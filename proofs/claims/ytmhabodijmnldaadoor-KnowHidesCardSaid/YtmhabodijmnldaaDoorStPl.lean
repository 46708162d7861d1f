/- Layer 10: a state's memory, read and written: what needs none of the code's calls. -/
import Derived.Test.YtmhabodijmnldaaDoorStBase
import Derived.Test.YtmhabodijmnldaaDoorStLong
import Derived.OwnWalk
namespace Go.Proofs.YtmhabodijmnldaaDoor
open Go.RowKit Ex
set_option maxRecDepth 100000
/-- Nil eleven times, and zeros. -/
def nilS : SlT := ⟨none, 0, 0⟩
def st0 : Array Value := stC nilS (fun _ => nilS) (fun _ => 0) (fun _ => 0)
def sT0 : StT := ⟨[], fun _ => [], fun _ => 0, fun _ => 0⟩
theorem reads_0 (B : Nat) (w : World) : ReadsS B w st0 sT0 nilS (fun _ => nilS) :=
  ⟨rfl, rfl, Nat.le_refl _, by simp [nilS], fun i o hi => by simp [sT0] at hi, fun z _ => Nums.none_, fun z _ => Nat.le_refl _, fun o ho => by simp [sT0] at ho, fun z _ x hx => by simp [sT0] at hx, fun i _ => by simp [N64, sT0], fun i _ => by simp [N64, sT0]⟩
theorem build0 (W : World) : (Instr.build 29 #[]).run Tryd.prog W = .ok (.agg st0) W := by kernel_rfl
theorem st0_is : (Value.slice none 0 0 :: Value.slice none 0 0 :: Value.slice none 0 0 :: Value.slice none 0 0 :: Value.slice none 0 0 :: Value.slice none 0 0 :: Value.slice none 0 0 :: Value.slice none 0 0 :: Value.slice none 0 0 :: Value.slice none 0 0 :: Value.slice none 0 0 :: Value.slice none 0 0 :: Value.int .i64 0 :: Value.int .i64 0 :: Value.int .i64 0 :: Value.int .i64 0 :: Value.int .i64 0 :: Value.int .i64 0 :: Value.int .i64 0 :: Value.int .i64 0 :: Value.int .i64 0 :: Value.int .i64 0 :: Value.int .i64 0 :: Value.int .i64 0 :: Value.int .i64 0 :: Value.int .i64 0 :: Value.int .i64 0 :: Value.int .i64 0 :: Value.int .i64 0 :: Value.int .i64 0 :: Value.int .i64 0 :: Value.int .i64 0 :: Value.int .i64 0 :: Value.int .i64 0 :: Value.int .i64 0 :: Value.int .i64 0 :: Value.int .i64 0 :: []).toArray = st0 := by kernel_rfl
theorem wpList_build0 {ops : Array Oper} {rest : List Oper} {o : Oper} {a : Act} {w : World} {Q : Exit → Act → World → Prop} (hg : o.guard = none) (ho : o.op = .build 29 #[])
    (hK : wpList Tryd.prog ops Q rest (a.put o.dst (.agg st0)) w) : wpList Tryd.prog ops Q (o :: rest) a w := by
  refine wpList_plain hg fun K' hK' => ?_
  unfold Oper.wp
  simp [execOp, ho, build0, Result.andThen]
  exact hK' _ _ hK
theorem index_obj (f : Nat → Int) : ∀ i : Nat, i < 18 → ∀ w, (Instr.index 49 (.agg (arr .i64 18 f)) (.int .i64 (i : Int))).run Tryd.prog w = .ok (.int .i64 (f i)) w
  | 0, _, _ => by kernel_rfl
  | 1, _, _ => by kernel_rfl
  | 2, _, _ => by kernel_rfl
  | 3, _, _ => by kernel_rfl
  | 4, _, _ => by kernel_rfl
  | 5, _, _ => by kernel_rfl
  | 6, _, _ => by kernel_rfl
  | 7, _, _ => by kernel_rfl
  | 8, _, _ => by kernel_rfl
  | 9, _, _ => by kernel_rfl
  | 10, _, _ => by kernel_rfl
  | 11, _, _ => by kernel_rfl
  | 12, _, _ => by kernel_rfl
  | 13, _, _ => by kernel_rfl
  | 14, _, _ => by kernel_rfl
  | 15, _, _ => by kernel_rfl
  | 16, _, _ => by kernel_rfl
  | 17, _, _ => by kernel_rfl
  | _ + 18, h, _ => absurd h (by omega)
theorem index_nine (f : Nat → Int) : ∀ i : Nat, i < 9 → ∀ w, (Instr.index 25 (.agg (arr .i64 9 f)) (.int .i64 (i : Int))).run Tryd.prog w = .ok (.int .i64 (f i)) w
  | 0, _, _ => by kernel_rfl
  | 1, _, _ => by kernel_rfl
  | 2, _, _ => by kernel_rfl
  | 3, _, _ => by kernel_rfl
  | 4, _, _ => by kernel_rfl
  | 5, _, _ => by kernel_rfl
  | 6, _, _ => by kernel_rfl
  | 7, _, _ => by kernel_rfl
  | 8, _, _ => by kernel_rfl
  | _ + 9, h, _ => absurd h (by omega)
theorem index_seven (f : Nat → Int) : ∀ i : Nat, i < 7 → ∀ w, (Instr.index 27 (.agg (arr .i64 7 f)) (.int .i64 (i : Int))).run Tryd.prog w = .ok (.int .i64 (f i)) w
  | 0, _, _ => by kernel_rfl
  | 1, _, _ => by kernel_rfl
  | 2, _, _ => by kernel_rfl
  | 3, _, _ => by kernel_rfl
  | 4, _, _ => by kernel_rfl
  | 5, _, _ => by kernel_rfl
  | 6, _, _ => by kernel_rfl
  | _ + 7, h, _ => absurd h (by omega)
theorem index_two (f : Nat → Int) : ∀ i : Nat, i < 2 → ∀ w, (Instr.index 26 (.agg (arr .i64 18 f)) (.int .i64 (i : Int))).run Tryd.prog w = .ok (.agg (arr .i64 9 fun j => f (i * 9 + j))) w
  | 0, _, _ => by kernel_rfl
  | 1, _, _ => by kernel_rfl
  | _ + 2, h, _ => absurd h (by omega)
theorem size18p : (Tryd.prog.info? 26).map (·.size) = some 18 := by kernel_rfl
theorem load_two {ops : Array Oper} {rest : List Oper} {op : Oper} {a : Act} {w : World} {Q : Exit → Act → World → Prop} (hgd : op.guard = none) (x : Operand) (ho : op.op = .load 26 x)
    (b o : Nat) (hx : a.eval x = .pointer (some ⟨b, o, none⟩)) (f : Nat → Int) (h : w.rangeAt b o (arr .i64 18 f).toList)
    (hK : wpList Tryd.prog ops Q rest (a.put op.dst (.agg (arr .i64 18 f))) w) : wpList Tryd.prog ops Q (op :: rest) a w := by
  refine wpList_load_mid hgd 26 x ho b o hx (arr .i64 18 f).toList _ h Tryd.underlying26 rfl (by rw [Array.length_toList, arr_size]; exact size18p) ?_
  rw [Array.toArray_toList]
  exact hK
theorem StAt.two {w : World} {g : Nat} {O : SlT} {L : Nat → SlT} {p q : Nat → Int} (h : StAt w g (stC O L p q)) : w.rangeAt g 12 (arr .i64 18 p).toList := fun i v hv => by
  have hi : i < 18 := by have := (List.getElem?_eq_some_iff.1 hv).1; rw [Array.length_toList, arr_size] at this; exact this
  rw [Array.getElem?_toList, arr_get .i64 18 _ hi] at hv
  rw [h.cell, stC_pl _ _ _ _ hi]
  exact hv
theorem load_objW {ops : Array Oper} {rest : List Oper} {op : Oper} {a : Act} {w : World} {Q : Exit → Act → World → Prop} (hw : Region.wanted op (yielded ops a.tmps) = true) (x : Operand) (ho : op.op = .load 49 x)
    (b o : Nat) (hx : a.eval x = .pointer (some ⟨b, o, none⟩)) (f : Nat → Int) (h : w.rangeAt b o (arr .i64 18 f).toList)
    (hK : wpList Tryd.prog ops Q rest (a.put op.dst (.agg (arr .i64 18 f))) w) : wpList Tryd.prog ops Q (op :: rest) a w := by
  refine BigFrame.wpList_want hw fun _ hK' => wp_load_mid 49 x ho b o hx (arr .i64 18 f).toList _ h Tryd.underlying49 rfl (by rw [Array.length_toList, arr_size]; exact st_size18) (hK' _ _ ?_)
  rw [Array.toArray_toList]
  exact hK
theorem list_at {B : Nat} {w : World} {cs : Array Value} {s : StT} {O : SlT} {L : Nat → SlT} (h : ReadsS B w cs s O L) {z : Nat} (hz : z < 11) :
    ∃ A n c, (∀ w, (Instr.index 24 (.agg (sl11 L)) (.int .i64 (z : Int))).run Tryd.prog w = .ok (.slice A n c) w) ∧ n ≤ c ∧ Nums .i64 w B A n (s.lists z) := ⟨_, _, _, index_list L z hz, h.lc z hz, h.l z hz⟩
end Go.Proofs.YtmhabodijmnldaaDoor
