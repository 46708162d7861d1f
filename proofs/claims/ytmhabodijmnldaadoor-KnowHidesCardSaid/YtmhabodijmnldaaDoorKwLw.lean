/- Layer 15: the laws' argument in its box. -/
import Derived.Test.YtmhabodijmnldaaDoorStBox
import Derived.Test.YtmhabodijmnldaaDoorKwRef
namespace Go.Proofs.YtmhabodijmnldaaDoor
open Go.RowKit Ex
set_option maxRecDepth 100000
structure KW (w : World) (gs : Nat) (cs : Array Value) (W : World) : Prop where
  b : Below w.heap.size w W
  a : StAt W gs cs
section
variable {w W W' : World} {gs : Nat} {cs : Array Value}
theorem KW.keep (h : KW w gs cs W) (hb : Below W.heap.size W W') : KW w gs cs W' := ⟨keepB hb h.b, h.a.keep hb⟩
theorem KW.reads {s : StT} {O : SlT} {L : Nat → SlT} (h : KW w gs cs W) (hr : ReadsS w.heap.size w cs s O L) : ReadsS W.heap.size W cs s O L := hr.grow h.b
end
theorem yields_obK {ops : Array Oper} {S : World → Prop} {op : Oper} {a : Act} (hw : Region.wanted op (yielded ops a.tmps) = true) (x : Operand) (ho : op.op = .load 49 x)
    (g : Nat) (hx : a.eval x = .pointer (some ⟨g, 0, none⟩)) (f : Nat → Int) (hS : ∀ w, S w → ObAt w g f) : YieldsIf Tryd.prog ops S op (.agg (arr .i64 18 f)) a := by
  have h := yieldsIf_load_mid (P := Tryd.prog) (S := S) hw 49 x ho g 0 hx (arr .i64 18 f).toList _ (fun w hSw => (hS w hSw).range) Tryd.underlying49 rfl (by rw [Array.length_toList, arr_size]; exact st_size18)
  rw [Array.toArray_toList] at h
  exact h
theorem ObAt.keep {w w' : World} {g : Nat} {f : Nat → Int} (h : ObAt w g f) (hb : Below w.heap.size w w') : ObAt w' g f := (hb.block g (Array.getElem?_eq_some_iff.1 h).1).trans h
theorem knownK_take {p : Int} {l : List (Nat → Int)} {k : Nat} {o : Nat → Int} (h : l[k]? = some o) : knownK p 0 (l.take (k + 1)) = knownK p 0 (l.take k) ++ (if bitK (o 17) p = true then [((k : Nat) : Int)] else []) := by
  obtain ⟨hk, rfl⟩ := List.getElem?_eq_some_iff.1 h
  rw [← List.take_append_getElem hk, known_snoc, List.length_take, Nat.min_eq_left (Nat.le_of_lt hk), Nat.zero_add]
theorem info_intK : (Tryd.prog.info? 3).map (fun i => (i.zero, i.size, i.bytes)) = some (some (.int .i64 0), 1, 8) := by kernel_rfl
theorem show_len {os : List (Nat → Int)} {id ps : Int} {is : Bool} : (showE os id ps is).length ≤ 1 := by
  unfold showE; split
  · simp
  · split <;> simp
end Go.Proofs.YtmhabodijmnldaaDoor
