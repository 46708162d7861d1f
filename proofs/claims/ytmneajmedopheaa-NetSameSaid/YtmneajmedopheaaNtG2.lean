/- Layer 10: which two states are the same; comparing players. Layer 9: what the calls on lists are to answer. Layer 12: events as plain data, and what they do: plain facts. Layer 12: what an event does: sizes, errors. Layer 13: the net of events: plain facts. Layer 13: events one behind the other, and their net: plain facts. Layer 13: the net of events: it leads to the same state, and the net of a net is itself: plain facts. A list of numbers in blocks of the call's own, that may be written into. Layer 10: copies of a state: lists and objects in blocks of the call's own. Layer 12: a state in blocks of the call's own, each list in one of its own: may be written into and appended to. Layer 12: mulligannum's Copy, with what is the call's own. Layer 12: the reference's Check, Invert. Layer 10: a state's box, loaded whole; what is not long. Layer 10: two boxes with states, side by side. Layer 10: objects, appended to. append of any slice of numbers, with where it lies then. Over any program. Layer 12: a state that an event changes, in the making. -/
import Derived.Test.YtmneajmedopheaaNtG1
import Derived.Deep.MidRow
import Derived.Maps.AppendAt
import Derived.Deep.Cut
import Derived.WalkMore
import Derived.OneCell
namespace Go.Proofs.Ytmneajmedopheaa
open Go.RowKit Ex
set_option maxRecDepth 100000
/-- The same objects. -/
def sameOL : List (Nat → Int) → List (Nat → Int) → Bool
  | [], [] => true
  | a :: l, b :: r => sameI 18 a b && sameOL l r
  | _, _ => false
theorem sameOL_iff : ∀ {l r : List (Nat → Int)}, sameOL l r = true ↔ l.length = r.length ∧ ∀ k (h1 : k < l.length) (h2 : k < r.length), sameI 18 l[k] r[k] = true
  | [], [] => by simp [sameOL]
  | [], _ :: _ => by simp [sameOL]
  | _ :: _, [] => by simp [sameOL]
  | a :: l, b :: r => by
    simp only [sameOL, Bool.and_eq_true, List.length_cons, sameOL_iff (l := l) (r := r)]
    constructor
    · rintro ⟨h1, h2, h3⟩
      refine ⟨by omega, fun k hk1 hk2 => ?_⟩
      cases k with
      | zero => exact h1
      | succ k => exact h3 k (by omega) (by omega)
    · rintro ⟨h1, h2⟩
      exact ⟨h2 0 (by omega) (by omega), by omega, fun k hk1 hk2 => h2 (k + 1) (by omega) (by omega)⟩
theorem sameOL_refl (l : List (Nat → Int)) : sameOL l l = true := sameOL_iff.2 ⟨rfl, fun _ _ _ => sameI_refl _ _⟩
theorem sameOL_len {l r : List (Nat → Int)} (h : l.length ≠ r.length) : sameOL l r = false := by
  rw [Bool.eq_false_iff]; intro h2; exact h (sameOL_iff.1 h2).1
theorem sameOL_at {l r : List (Nat → Int)} {k : Nat} (h1 : k < l.length) (h2 : k < r.length) (h : sameI 18 l[k] r[k] = false) : sameOL l r = false := by
  rw [Bool.eq_false_iff]; intro h3; rw [(sameOL_iff.1 h3).2 k h1 h2] at h; cases h
def sameL (a b : StT) : Bool := (List.range 11).all fun z => decide (a.lists z = b.lists z)
theorem sameL_good {a b : StT} (h : ∀ z, z < 11 → a.lists z = b.lists z) : sameL a b = true := by
  unfold sameL; rw [List.all_eq_true]; intro z hz; simpa using h z (List.mem_range.1 hz)
theorem sameL_bad {a b : StT} {z : Nat} (hz : z < 11) (h : a.lists z ≠ b.lists z) : sameL a b = false := by
  rw [Bool.eq_false_iff]; intro h2
  unfold sameL at h2
  rw [List.all_eq_true] at h2
  exact h (by simpa using h2 z (List.mem_range.2 hz))
def sameS (a b : StT) : Bool := sameL a b && sameOL a.objs b.objs && sameI 18 a.pl b.pl && sameI 7 a.gm b.gm
theorem sameS_refl (a : StT) : sameS a a = true := by
  simp only [sameS, sameL_good (fun z _ => rfl), sameOL_refl, sameI_refl, Bool.and_true]
theorem range18' : List.range 18 = [0, 1, 2, 3, 4, 5, 6, 7, 8, 9, 10, 11, 12, 13, 14, 15, 16, 17] := rfl
theorem sameI_two (f g : Nat → Int) : sameI 18 f g = (sameI 9 (fun j => f (0 * 9 + j)) (fun j => g (0 * 9 + j)) && sameI 9 (fun j => f (1 * 9 + j)) (fun j => g (1 * 9 + j))) := by
  rw [Bool.eq_iff_iff, Bool.and_eq_true, sameI_iff, sameI_iff, sameI_iff]
  refine ⟨fun h => ⟨fun i hi => h _ (by omega), fun i hi => h _ (by omega)⟩, fun ⟨h1, h2⟩ i hi => ?_⟩
  by_cases e : i < 9
  · have := h1 i e; simpa using this
  · have := h2 (i - 9) (by omega)
    simpa [show 9 + (i - 9) = i by omega] using this
theorem part_two (f : Nat → Int) (w : World) : (part 25 (arr .i64 18 f) (0 * 9)).run Try.prog w = .ok (.agg (arr .i64 9 fun j => f (0 * 9 + j))) w ∧ (part 25 (arr .i64 18 f) (1 * 9)).run Try.prog w = .ok (.agg (arr .i64 9 fun j => f (1 * 9 + j))) w := ⟨by kernel_rfl, by kernel_rfl⟩
theorem size_nine (w : World) : (sizeOf 25).run Try.prog w = .ok 9 w := by kernel_rfl
theorem run_equalIn_two (w : World) (d : Nat) (f g : Nat → Int) : (Op.equalIn (d + 3) 26 (.agg (arr .i64 18 f)) (.agg (arr .i64 18 g))).run Try.prog w = .ok (sameI 18 f g) w := by
  rw [sameI_two, Op.equalIn]
  simp only [Sem.run_bind, run_underlying Try.underlying26, Result.andThen_ok, size_nine, Std.Legacy.Range.forIn_eq_forIn_range', Std.Legacy.Range.size, Nat.sub_zero, Nat.add_sub_cancel, Nat.div_one]
  rw [show List.range' 0 2 1 = [0, 1] from rfl]
  have e0 := run_equalIn_arr (P := Try.prog) w d 25 3 .i64 9 Try.underlying25 Try.underlying3 (fun _ => by kernel_rfl) (fun j => f (0 * 9 + j)) (fun j => g (0 * 9 + j))
  have e1 := run_equalIn_arr (P := Try.prog) w d 25 3 .i64 9 Try.underlying25 Try.underlying3 (fun _ => by kernel_rfl) (fun j => f (1 * 9 + j)) (fun j => g (1 * 9 + j))
  have pf0 := (part_two f w).1
  have pg0 := (part_two g w).1
  have pf1 : (part 25 (arr .i64 18 f) 9).run Try.prog w = _ := (part_two f w).2
  have pg1 : (part 25 (arr .i64 18 g) 9).run Try.prog w = _ := (part_two g w).2
  generalize (fun j => f (0 * 9 + j)) = f0 at *
  generalize (fun j => g (0 * 9 + j)) = g0 at *
  generalize (fun j => f (1 * 9 + j)) = f1 at *
  generalize (fun j => g (1 * 9 + j)) = g1 at *
  simp only [List.forIn_cons, Sem.run_bind, pf0, pg0, e0, Result.andThen_ok]
  cases h0 : sameI 9 f0 g0 <;> cases h1 : sameI 9 f1 g1 <;> simp [pf1, pg1, e1, h1]
theorem eql_two (f g : Nat → Int) (w : World) : (binOp .eql 26 (.agg (arr .i64 18 f)) (.agg (arr .i64 18 g))).run Try.prog w = .ok (.bool (sameI 18 f g)) w := by
  simp only [binOp]
  simp [Op.equal, Op.maxDepth, run_equalIn_two w 9997 f g]
theorem neq_two (f g : Nat → Int) (w : World) : (binOp .neq 26 (.agg (arr .i64 18 f)) (.agg (arr .i64 18 g))).run Try.prog w = .ok (.bool (!sameI 18 f g)) w := by
  simp only [binOp]
  simp [Op.equal, Op.maxDepth, run_equalIn_two w 9997 f g]
theorem eql_seven (f g : Nat → Int) (w : World) : (binOp .eql 27 (.agg (arr .i64 7 f)) (.agg (arr .i64 7 g))).run Try.prog w = .ok (.bool (sameI 7 f g)) w :=
  run_eql_arr w 27 3 .i64 7 Try.underlying27 Try.underlying3 (fun _ => by kernel_rfl) f g
theorem neq_seven (f g : Nat → Int) (w : World) : (binOp .neq 27 (.agg (arr .i64 7 f)) (.agg (arr .i64 7 g))).run Try.prog w = .ok (.bool (!sameI 7 f g)) w :=
  run_neq_arr w 27 3 .i64 7 Try.underlying27 Try.underlying3 (fun _ => by kernel_rfl) f g
theorem neq_obj (f g : Nat → Int) (w : World) : (binOp .neq 52 (.agg (arr .i64 18 f)) (.agg (arr .i64 18 g))).run Try.prog w = .ok (.bool (!sameI 18 f g)) w :=
  run_neq_arr w 52 3 .i64 18 Try.underlying52 Try.underlying3 (fun _ => by kernel_rfl) f g
end Go.Proofs.Ytmneajmedopheaa
namespace Go.Proofs.Ytmneajmedopheaa
open Go.RowKit
namespace Ex
/-- A list with a number more; without a place; of which one number was moved. -/
def insL (l : List Int) (i : Nat) (x : Int) : List Int := l.take i ++ x :: l.drop i
def rmL (l : List Int) (i : Nat) : List Int := l.take i ++ l.drop (i + 1)
def mvL (l : List Int) (i j : Nat) : List Int := insL (rmL l i) j (l.getD i 0)
/-- The first place; -1: none. -/
def idxL : List Int → Int → Int
  | [], _ => -1
  | y :: l, x => if y = x then 0 else if idxL l x = -1 then -1 else idxL l x + 1
theorem idx_ge : ∀ (l : List Int) (x : Int), -1 ≤ idxL l x ∧ idxL l x < l.length
  | [], x => by simp [idxL]
  | y :: l, x => by
    have h := idx_ge l x
    simp only [idxL, List.length_cons]
    split
    · omega
    · split <;> omega
theorem idx_none : ∀ {l : List Int} {x : Int}, idxL l x = -1 ↔ x ∉ l
  | [], x => by simp [idxL]
  | y :: l, x => by
    have h := idx_none (l := l) (x := x)
    have h2 := idx_ge l x
    simp only [idxL, List.mem_cons, not_or]
    by_cases e : y = x
    · rw [if_pos e]; exact ⟨fun h => by omega, fun h => absurd e.symm h.1⟩
    · rw [if_neg e]
      split
      · rename_i h1; exact ⟨fun _ => ⟨fun h => e h.symm, h.1 h1⟩, fun _ => rfl⟩
      · rename_i h1; exact ⟨fun h3 => by omega, fun h3 => absurd (h.2 h3.2) h1⟩
theorem idx_at : ∀ {l : List Int} {x : Int} {k : Nat}, (∀ (j : Nat), j < k → l[j]? ≠ some x) → l[k]? = some x → idxL l x = (k : Int)
  | [], x, k, _, h => by simp at h
  | y :: l, x, 0, _, h => by simp at h; simp [idxL, h]
  | y :: l, x, k + 1, h1, h => by
    have e : y ≠ x := fun e => h1 0 (by omega) (by simp [e])
    have ih := idx_at (l := l) (x := x) (k := k) (fun j hj => by have := h1 (j + 1) (by omega); simpa using this) (by simpa using h)
    simp only [idxL, if_neg e, ih]
    rw [if_neg (by omega)]; omega
theorem idx_mem {l : List Int} {x : Int} (h : x ∈ l) : 0 ≤ idxL l x := by
  have h1 := idx_ge l x
  have h2 := (idx_none (l := l) (x := x))
  by_cases e : idxL l x = -1
  · exact absurd h (h2.1 e)
  · omega
/-- No number stands twice just where each one's first place is its own. -/
theorem once_iff {l : List Int} : (∀ (i : Nat) (x : Int), l[i]? = some x → idxL l x = (i : Int)) ↔ l.Nodup := by
  unfold List.Nodup
  rw [List.pairwise_iff_getElem]
  constructor
  · intro h i j hi hj hij e
    have h1 := h i l[i] (List.getElem?_eq_getElem hi)
    have h2 := h j l[j] (List.getElem?_eq_getElem hj)
    rw [e] at h1
    omega
  · intro h i x hx
    refine idx_at (fun j hj e => ?_) hx
    obtain ⟨hi, hxi⟩ := List.getElem?_eq_some_iff.1 hx
    obtain ⟨hj2, hxj⟩ := List.getElem?_eq_some_iff.1 e
    exact h j i hj2 hi hj (hxj.trans hxi.symm)
/-- Is order each of the n places once? -/
def dealOk (n : Nat) (order : List Int) : Prop := n = order.length ∧ ∀ i : Nat, i < n → (i : Int) ∈ order
instance (n : Nat) (order : List Int) : Decidable (dealOk n order) := inferInstanceAs (Decidable (_ ∧ _))
theorem deal_in : ∀ (n : Nat) (o : List Int), o.length = n → (∀ i : Nat, i < n → (i : Int) ∈ o) → ∀ x ∈ o, 0 ≤ x ∧ x < n
  | 0, o, hl, _, x, hx => by rw [List.eq_nil_of_length_eq_zero hl] at hx; simp at hx
  | n + 1, o, hl, hm, x, hx => by
    have hn := hm n (by omega)
    have ih := deal_in n (o.erase (n : Int)) (by rw [List.length_erase_of_mem hn]; omega) (fun i hi => (List.mem_erase_of_ne (by omega)).2 (hm i (by omega)))
    by_cases e : x = (n : Int)
    · omega
    · have := ih x ((List.mem_erase_of_ne e).2 hx)
      omega
def dealL (l order : List Int) : List Int := order.map fun o => l.getD o.toNat 0
/-- What has been laid of a list with a number more when k places are over. -/
def insK (l : List Int) (i : Nat) (x : Int) (k : Nat) : List Int := if i < k then insL (l.take k) i x else l.take k
theorem insK_step (l : List Int) (i : Nat) (x : Int) (k : Nat) (hi : i ≤ l.length) (hk : k ≤ l.length) :
    insK l i x (k + 1) = insK l i x k ++ ((if k = i then [x] else []) ++ (l[k]?).toList) := by
  unfold insK insL
  rw [List.take_add_one]
  by_cases h1 : i < k
  · rw [if_pos (by omega), if_pos h1, if_neg (by omega)]
    have hl : i ≤ (l.take k).length := by rw [List.length_take]; omega
    rw [List.take_append_of_le_length hl, List.drop_append_of_le_length hl]
    simp
  · by_cases h2 : k = i
    · subst h2
      rw [if_pos (by omega), if_neg (by omega), if_pos rfl]
      have hl : (l.take k).length = k := by rw [List.length_take]; omega
      rw [List.take_append_of_le_length (by omega), List.drop_append_of_le_length (by omega), List.take_of_length_le (by omega), List.drop_of_length_le (by omega)]
      simp
    · rw [if_neg (by omega), if_neg h1, if_neg h2]; simp
theorem insK_end (l : List Int) (i : Nat) (x : Int) (hi : i ≤ l.length) : insK l i x (l.length + 1) = insL l i x := by
  unfold insK; rw [if_pos (by omega), List.take_of_length_le (by omega)]
def rmK (l : List Int) (i k : Nat) : List Int := if i < k then rmL (l.take k) i else l.take k
theorem rmK_step (l : List Int) (i k : Nat) (hk : k < l.length) : rmK l i (k + 1) = rmK l i k ++ (if k = i then [] else [l[k]]) := by
  unfold rmK rmL
  rw [List.take_succ_eq_append_getElem hk]
  have hl : (l.take k).length = k := by rw [List.length_take]; omega
  by_cases h1 : i < k
  · rw [if_pos (by omega), if_pos h1, if_neg (by omega), List.take_append_of_le_length (by omega), List.drop_append_of_le_length (by omega)]
    simp
  · by_cases h2 : k = i
    · subst h2
      rw [if_pos (by omega), if_neg (by omega), if_pos rfl, List.take_append_of_le_length (by omega), List.drop_of_length_le (by simp; omega), List.take_of_length_le (by omega)]
    · rw [if_neg (by omega), if_neg h1, if_neg h2]
theorem rmK_end (l : List Int) (i : Nat) (hi : i < l.length) : rmK l i l.length = rmL l i := by
  unfold rmK; rw [if_pos hi, List.take_length]
theorem ins_len (l : List Int) (i : Nat) (x : Int) (hi : i ≤ l.length) : (insL l i x).length = l.length + 1 := by simp [insL]; omega
theorem rm_len (l : List Int) (i : Nat) (hi : i < l.length) : (rmL l i).length = l.length - 1 := by simp [rmL]; omega
theorem insK_len (l : List Int) (i : Nat) (x : Int) (k : Nat) : (insK l i x k).length ≤ l.length + 1 := by
  unfold insK insL; split
  · simp; omega
  · simp; omega
theorem rmK_len (l : List Int) (i k : Nat) : (rmK l i k).length ≤ l.length := by
  unfold rmK rmL; split
  · simp; omega
  · simp; omega
theorem ins_at (l : List Int) (i : Nat) (x : Int) (hi : i ≤ l.length) : (insL l i x)[i]? = some x := by
  unfold insL
  rw [List.getElem?_append_right (by rw [List.length_take]; omega), List.length_take, show i - min i l.length = 0 by omega]
  rfl
theorem rm_ins (l : List Int) (i : Nat) (x : Int) (hi : i ≤ l.length) : rmL (insL l i x) i = l := by
  unfold rmL insL
  have hl : (l.take i).length = i := by rw [List.length_take]; omega
  rw [List.take_append_of_le_length (by omega), List.take_of_length_le (by omega), List.drop_append, List.drop_of_length_le (by omega), hl, show i + 1 - i = 1 by omega, List.nil_append]
  simp
theorem ins_rm (l : List Int) (i : Nat) (hi : i < l.length) : insL (rmL l i) i (l.getD i 0) = l := by
  unfold rmL insL
  have hl : (l.take i).length = i := by rw [List.length_take]; omega
  rw [List.take_append_of_le_length (by omega), List.take_of_length_le (by omega), List.drop_append, List.drop_of_length_le (by omega), hl, Nat.sub_self, List.nil_append, List.drop_zero, List.getD_eq_getElem?_getD, List.getElem?_eq_getElem hi, Option.getD_some, ← List.drop_eq_getElem_cons hi, List.take_append_drop]
theorem mv_len (l : List Int) (i j : Nat) (hi : i < l.length) (hj : j < l.length) : (mvL l i j).length = l.length := by
  unfold mvL; rw [ins_len _ _ _ (by rw [rm_len l i hi]; omega), rm_len l i hi]; omega
theorem mv_back (l : List Int) (i j : Nat) (hi : i < l.length) (hj : j < l.length) : mvL (mvL l i j) j i = l := by
  have hr : j ≤ (rmL l i).length := by rw [rm_len l i hi]; omega
  have h1 : rmL (mvL l i j) j = rmL l i := rm_ins _ _ _ hr
  have h2 : (mvL l i j).getD j 0 = l.getD i 0 := by rw [List.getD_eq_getElem?_getD, show (mvL l i j)[j]? = some (l.getD i 0) from ins_at _ _ _ hr]; rfl
  unfold mvL at h1 h2 ⊢
  rw [h1, h2, ins_rm l i hi]
end Ex
end Go.Proofs.Ytmneajmedopheaa
namespace Go.Proofs.Ytmneajmedopheaa
open Go.RowKit Ex
/-- An object that is made. -/
def madeO (a b c : Int) : Nat → Int := fun i => if i = 0 then a else if i = 1 ∨ i = 2 then b else if i = 3 then 10 else if i = 13 then c else if i = 17 then 3 else 0
def updL (L : Nat → List Int) (z : Nat) (l : List Int) : Nat → List Int := fun i => if i = z then l else L i
theorem updL_at (L : Nat → List Int) (z : Nat) (l : List Int) : updL L z l z = l := if_pos rfl
theorem updL_ne (L : Nat → List Int) {z y : Nat} (h : y ≠ z) (l : List Int) : updL L z l y = L y := if_neg h
def setO (os : List (Nat → Int)) (i j : Nat) (x : Int) : List (Nat → Int) := os.set i (updI (os.getD i fun _ => 0) j x)
theorem setO_len (os : List (Nat → Int)) (i j : Nat) (x : Int) : (setO os i j x).length = os.length := List.length_set
theorem setO_at {os : List (Nat → Int)} {i j : Nat} {x : Int} (h : i < os.length) : (setO os i j x).getD i (fun _ => 0) = updI (os.getD i fun _ => 0) j x := by
  unfold setO
  rw [List.getD_eq_getElem?_getD, List.getElem?_set_self h, Option.getD_some]
def ap0 (s : StT) (e : EvT) : StT × Int :=
  if 400 ≤ s.objs.length then (sT0, 5) else (⟨s.objs ++ [madeO e.a e.b e.c], updL s.lists 10 (s.lists 10 ++ [(s.objs.length : Int)]), s.pl, s.gm⟩, 0)
def ap5 (s : StT) (e : EvT) : StT × Int :=
  if s.objs.length = 0 ∨ (s.lists 10).length = 0 ∨ (s.lists 10).getD ((s.lists 10).length - 1) 0 ≠ (s.objs.length : Int) - 1 ∨ sameI 18 (s.objs.getD (s.objs.length - 1) fun _ => 0) (madeO e.a e.b e.c) = false then (sT0, 20)
  else (⟨s.objs.take (s.objs.length - 1), updL s.lists 10 ((s.lists 10).take ((s.lists 10).length - 1)), s.pl, s.gm⟩, 0)
/-- The lists, of which a number was taken. -/
def mv1 (s : StT) (e : EvT) : Nat → List Int := updL s.lists e.b.toNat (rmL (s.lists e.b.toNat) e.c.toNat)
def ap1 (s : StT) (e : EvT) : StT × Int :=
  if (s.objs.length : Int) ≤ e.a then (sT0, 4)
  else if ((s.lists e.b.toNat).length : Int) ≤ e.c ∨ (s.lists e.b.toNat).getD e.c.toNat 0 ≠ e.a then (sT0, 20)
  else if ((mv1 s e e.d.toNat).length : Int) < e.e then (sT0, 1)
  else (⟨setO s.objs e.a.toNat 3 e.d, updL (mv1 s e) e.d.toNat (insL (mv1 s e e.d.toNat) e.e.toNat e.a), s.pl, s.gm⟩, 0)
def ap2 (s : StT) (e : EvT) : StT × Int :=
  if (s.objs.length : Int) ≤ e.a then (sT0, 4)
  else if (s.objs.getD e.a.toNat fun _ => 0) e.b.toNat ≠ e.c then (sT0, 20)
  else (⟨setO s.objs e.a.toNat e.b.toNat e.d, s.lists, s.pl, s.gm⟩, 0)
def ap3 (s : StT) (e : EvT) : StT × Int :=
  if s.pl (e.a.toNat * 9 + e.b.toNat) ≠ e.c then (sT0, 20) else (⟨s.objs, s.lists, updI s.pl (e.a.toNat * 9 + e.b.toNat) e.d, s.gm⟩, 0)
def ap4 (s : StT) (e : EvT) : StT × Int :=
  if s.gm e.b.toNat ≠ e.c then (sT0, 20) else (⟨s.objs, s.lists, s.pl, updI s.gm e.b.toNat e.d⟩, 0)
/-- The state behind an event; an error's number. -/
def applyS (s : StT) (e : EvT) : StT × Int :=
  if chkE e ≠ 0 then (sT0, chkE e) else if e.k = 0 then ap0 s e else if e.k = 1 then ap1 s e else if e.k = 2 then ap2 s e else if e.k = 3 then ap3 s e else if e.k = 4 then ap4 s e else ap5 s e
/-- What was changed is as it was, but for a moved object's zone. -/
def backS (s u : StT) (e : EvT) : StT := if e.k = 1 then { u with objs := setO u.objs e.a.toNat 3 ((s.objs.getD e.a.toNat fun _ => 0) 3) } else u
theorem sameS_of {a b : StT} (h1 : a.objs.length = b.objs.length) (h2 : ∀ k (x : k < a.objs.length) (y : k < b.objs.length), ∀ i, i < 18 → a.objs[k] i = b.objs[k] i) (h3 : ∀ z, z < 11 → a.lists z = b.lists z) (h4 : ∀ i, i < 18 → a.pl i = b.pl i) (h5 : ∀ i, i < 7 → a.gm i = b.gm i) : sameS a b = true := by
  unfold sameS
  rw [sameL_good h3, sameOL_iff.2 ⟨h1, fun k x y => sameI_iff.2 (h2 k x y)⟩, sameI_iff.2 h4, sameI_iff.2 h5]; rfl
theorem getD_in {α : Type} (l : List α) {i : Nat} (h : i < l.length) (d : α) : l.getD i d = l[i] := by rw [List.getD_eq_getElem?_getD, List.getElem?_eq_getElem h, Option.getD_some]
theorem take_last {l : List Int} {x : Int} (h : l.length ≠ 0) (hx : l.getD (l.length - 1) 0 = x) : l.take (l.length - 1) ++ [x] = l := by
  rw [getD_in l (by omega)] at hx
  have := List.take_succ_eq_append_getElem (l := l) (i := l.length - 1) (by omega)
  rw [hx, show l.length - 1 + 1 = l.length by omega, List.take_length] at this
  exact this.symm
theorem back0 {s t : StT} {e f : EvT} (he : f.a = e.a ∧ f.b = e.b ∧ f.c = e.c) (h : ap0 s e = (t, 0)) : ∃ u, ap5 t f = (u, 0) ∧ sameS u s = true ∧ u.objs.length = s.objs.length := by
  obtain ⟨h1, h2, h3⟩ := he
  unfold ap0 at h
  split at h
  · have := congrArg Prod.snd h; simp at this
  · obtain rfl := congrArg Prod.fst h
    clear h
    unfold ap5
    simp only [List.length_append, List.length_singleton, updL_at, Nat.add_sub_cancel]
    rw [if_neg]
    · refine ⟨_, rfl, ?_, by simp⟩
      refine sameS_of (by simp) (fun k x y i hi => by simp; rw [List.getElem_append_left y]) (fun z hz => ?_) (fun _ _ => rfl) (fun _ _ => rfl)
      by_cases e : z = 10
      · subst e; simp [updL_at]
      · simp [updL_ne _ e]
    · rw [h1, h2, h3]
      have e1 : (s.lists 10 ++ [(s.objs.length : Int)]).getD (s.lists 10).length 0 = (s.objs.length : Int) := by
        rw [List.getD_eq_getElem?_getD, List.getElem?_append_right (Nat.le_refl _)]; simp
      have e2 : (s.objs ++ [madeO e.a e.b e.c]).getD s.objs.length (fun _ => 0) = madeO e.a e.b e.c := by
        rw [List.getD_eq_getElem?_getD, List.getElem?_append_right (Nat.le_refl _)]; simp
      rw [e1, e2, sameI_refl]
      rintro (h | h | h | h)
      · omega
      · omega
      · apply h; push_cast; omega
      · cases h
theorem back5 {s t : StT} {e f : EvT} (hn : s.objs.length ≤ 400) (he : f.a = e.a ∧ f.b = e.b ∧ f.c = e.c) (h : ap5 s e = (t, 0)) : ∃ u, ap0 t f = (u, 0) ∧ sameS u s = true ∧ u.objs.length = s.objs.length := by
  obtain ⟨h1, h2, h3⟩ := he
  unfold ap5 at h
  split at h
  · have := congrArg Prod.snd h; simp at this
  · rename_i hno
    obtain rfl := congrArg Prod.fst h
    clear h
    have g1 : s.objs.length ≠ 0 := fun h => hno (.inl h)
    have g2 : (s.lists 10).length ≠ 0 := fun h => hno (.inr (.inl h))
    have g3 : (s.lists 10).getD ((s.lists 10).length - 1) 0 = (s.objs.length : Int) - 1 := Classical.byContradiction fun h => hno (.inr (.inr (.inl h)))
    have g4 : sameI 18 (s.objs.getD (s.objs.length - 1) fun _ => 0) (madeO e.a e.b e.c) = true := by
      cases hb : sameI 18 (s.objs.getD (s.objs.length - 1) fun _ => 0) (madeO e.a e.b e.c)
      · exact absurd (.inr (.inr (.inr hb))) hno
      · rfl
    clear hno
    unfold ap0
    simp only [List.length_take, Nat.min_eq_left (Nat.sub_le _ _), updL_at]
    rw [if_neg (by omega), h1, h2, h3]
    refine ⟨_, rfl, ?_, by simp; omega⟩
    refine sameS_of (by simp; omega) (fun k x y i hi => ?_) (fun z hz => ?_) (fun _ _ => rfl) (fun _ _ => rfl)
    · simp only
      by_cases hk : k < s.objs.length - 1
      · rw [List.getElem_append_left (by simp; omega), List.getElem_take]
      · have hk2 : k = s.objs.length - 1 := by omega
        subst hk2
        rw [List.getElem_append_right (by simp)]
        rw [getD_in _ (by omega)] at g4
        have := sameI_iff.1 g4 i hi
        simp only [List.getElem_singleton]
        exact this.symm
    · by_cases e : z = 10
      · subst e
        simp only [updL_at]
        refine take_last g2 ?_
        rw [g3]; omega
      · simp [updL_ne _ e]
theorem sameO_set {os : List (Nat → Int)} {i : Nat} (hi : i < os.length) {x y : Int} {j : Nat} (h : (os.getD i fun _ => 0) j = y) : ∀ k (p : k < (setO (setO os i j x) i j y).length) (q : k < os.length), ∀ n, n < 18 → (setO (setO os i j x) i j y)[k] n = os[k] n := by
  intro k p q n _
  have e1 : setO (setO os i j x) i j y = os.set i (updI (updI (os.getD i fun _ => 0) j x) j y) := by
    rw [setO, setO_at hi, setO, List.set_set]
  rw [List.getElem_of_eq e1, List.getElem_set]
  by_cases e : i = k
  · subst e
    rw [if_pos rfl]
    rw [getD_in _ hi] at h ⊢
    unfold updI
    by_cases e : n = j
    · subst e; rw [if_pos rfl]; exact h.symm
    · rw [if_neg e, if_neg e]
  · rw [if_neg e]
theorem back2 {s t : StT} {e f : EvT} (ha : 0 ≤ e.a) (he : f.a = e.a ∧ f.b = e.b ∧ f.c = e.d ∧ f.d = e.c) (h : ap2 s e = (t, 0)) : ∃ u, ap2 t f = (u, 0) ∧ sameS u s = true ∧ u.objs.length = s.objs.length := by
  obtain ⟨h1, h2, h3, h4⟩ := he
  unfold ap2 at h
  split at h
  · have := congrArg Prod.snd h; simp at this
  rename_i n1
  split at h
  · have := congrArg Prod.snd h; simp at this
  rename_i n2
  obtain rfl := congrArg Prod.fst h
  clear h
  have hlt : e.a.toNat < s.objs.length := by omega
  unfold ap2
  simp only [setO_len, h1, h2, h3, h4, setO_at hlt]
  rw [if_neg n1, if_neg (by simp [updI])]
  refine ⟨_, rfl, ?_, by simp [setO_len]⟩
  exact sameS_of (by simp [setO_len]) (sameO_set hlt (Classical.byContradiction n2)) (fun _ _ => rfl) (fun _ _ => rfl) (fun _ _ => rfl)
theorem upd_back (f : Nat → Int) (i : Nat) (x : Int) : updI (updI f i x) i (f i) = f := by
  funext j; unfold updI; by_cases e : j = i
  · subst e; rw [if_pos rfl]
  · rw [if_neg e, if_neg e]
theorem back3 {s t : StT} {e f : EvT} (he : f.a = e.a ∧ f.b = e.b ∧ f.c = e.d ∧ f.d = e.c) (h : ap3 s e = (t, 0)) : ∃ u, ap3 t f = (u, 0) ∧ sameS u s = true ∧ u.objs.length = s.objs.length := by
  obtain ⟨h1, h2, h3, h4⟩ := he
  unfold ap3 at h
  split at h
  · have := congrArg Prod.snd h; simp at this
  rename_i n2
  obtain rfl := congrArg Prod.fst h
  clear h
  have n3 := Classical.byContradiction n2
  unfold ap3
  simp only [h1, h2, h3, h4]
  rw [if_neg (by simp [updI])]
  refine ⟨_, rfl, ?_, rfl⟩
  rw [← n3, upd_back]
  exact sameS_refl s
theorem back4 {s t : StT} {e f : EvT} (he : f.b = e.b ∧ f.c = e.d ∧ f.d = e.c) (h : ap4 s e = (t, 0)) : ∃ u, ap4 t f = (u, 0) ∧ sameS u s = true ∧ u.objs.length = s.objs.length := by
  obtain ⟨h2, h3, h4⟩ := he
  unfold ap4 at h
  split at h
  · have := congrArg Prod.snd h; simp at this
  rename_i n2
  obtain rfl := congrArg Prod.fst h
  clear h
  have n3 := Classical.byContradiction n2
  unfold ap4
  simp only [h2, h3, h4]
  rw [if_neg (by simp [updI])]
  refine ⟨_, rfl, ?_, rfl⟩
  rw [← n3, upd_back]
  exact sameS_refl s
theorem back1 {s t : StT} {e f : EvT} (ha : 0 ≤ e.a) (hc : 0 ≤ e.c) (he : f.a = e.a ∧ f.b = e.d ∧ f.c = e.e ∧ f.d = e.b ∧ f.e = e.c) (h : ap1 s e = (t, 0)) :
    ∃ u, ap1 t f = (u, 0) ∧ sameS { u with objs := setO u.objs e.a.toNat 3 ((s.objs.getD e.a.toNat fun _ => 0) 3) } s = true ∧ u.objs.length = s.objs.length ∧ e.a.toNat < s.objs.length := by
  obtain ⟨h1, h2, h3, h4, h5⟩ := he
  unfold ap1 at h
  split at h
  · have := congrArg Prod.snd h; simp at this
  rename_i n1
  split at h
  · have := congrArg Prod.snd h; simp at this
  rename_i n2
  split at h
  · have := congrArg Prod.snd h; simp at this
  rename_i n3
  obtain rfl := congrArg Prod.fst h
  clear h
  have hlt : e.a.toNat < s.objs.length := by omega
  have g1 : e.c.toNat < (s.lists e.b.toNat).length := by
    have : ¬ ((s.lists e.b.toNat).length : Int) ≤ e.c := fun h => n2 (.inl h)
    omega
  have g2 : (s.lists e.b.toNat).getD e.c.toNat 0 = e.a := Classical.byContradiction fun h => n2 (.inr h)
  have g3 : e.e.toNat ≤ (mv1 s e e.d.toNat).length := by omega
  have hgt : (insL (mv1 s e e.d.toNat) e.e.toNat e.a).getD e.e.toNat 0 = e.a := by
    have := ins_at (mv1 s e e.d.toNat) e.e.toNat e.a g3
    rw [List.getD_eq_getElem?_getD, this, Option.getD_some]
  have hln := ins_len (mv1 s e e.d.toNat) e.e.toNat e.a g3
  have hm1 : ∀ z, mv1 ⟨setO s.objs e.a.toNat 3 e.d, updL (mv1 s e) e.d.toNat (insL (mv1 s e e.d.toNat) e.e.toNat e.a), s.pl, s.gm⟩ f z = mv1 s e z := by
    intro z
    show updL _ f.b.toNat (rmL _ f.c.toNat) z = _
    rw [h2, h3]
    simp only
    by_cases ez : z = e.d.toNat
    · subst ez; rw [updL_at, updL_at, rm_ins _ _ _ g3]
    · rw [updL_ne _ ez, updL_ne _ ez]
  unfold ap1
  simp only [setO_len]
  rw [h1, if_neg n1, h2, h3, h4, h5]
  rw [updL_at, if_neg (by rintro (h | h)
                          · omega
                          · exact h hgt), hm1, if_neg (by
    show ¬ ((mv1 s e e.b.toNat).length : Int) < e.c
    rw [show mv1 s e e.b.toNat = rmL (s.lists e.b.toNat) e.c.toNat from updL_at _ _ _, rm_len _ _ g1]; omega)]
  refine ⟨_, rfl, ?_, by simp [setO_len], hlt⟩
  refine sameS_of (by simp [setO_len]) ?_ (fun z hz => ?_) (fun _ _ => rfl) (fun _ _ => rfl)
  · intro k x y i hi
    simp only
    have e1 : setO (setO (setO s.objs e.a.toNat 3 e.d) e.a.toNat 3 e.b) e.a.toNat 3 ((s.objs.getD e.a.toNat fun _ => 0) 3) = setO (setO s.objs e.a.toNat 3 e.d) e.a.toNat 3 ((s.objs.getD e.a.toNat fun _ => 0) 3) := by
      have hl2 : e.a.toNat < (setO s.objs e.a.toNat 3 e.d).length := by rw [setO_len]; exact hlt
      rw [setO, setO_at hl2, setO, List.set_set, setO]
      congr 1
      funext j; unfold updI; by_cases ej : j = 3
      · rw [if_pos ej, if_pos ej]
      · rw [if_neg ej, if_neg ej, if_neg ej]
    have h9 := sameO_set (x := e.d) (y := (s.objs.getD e.a.toNat fun _ => 0) 3) (j := 3) hlt rfl k (by simp [setO_len]; exact y) y i hi
    rw [List.getElem_of_eq e1]
    exact h9
  · show updL _ _ _ z = _
    by_cases ez : z = e.b.toNat
    · subst ez
      rw [updL_at]
      show insL (mv1 s e e.b.toNat) e.c.toNat e.a = _
      rw [show mv1 s e e.b.toNat = rmL (s.lists e.b.toNat) e.c.toNat from updL_at _ _ _, ← g2]
      exact ins_rm _ _ g1
    · rw [updL_ne _ ez, hm1]
      exact updL_ne _ ez _
theorem apply_back {s t : StT} {e : EvT} (hn : s.objs.length ≤ 400) (h : applyS s e = (t, 0)) (hi : chkE (invE e) = 0) :
    ∃ u, applyS t (invE e) = (u, 0) ∧ sameS (backS s u e) s = true ∧ u.objs.length = s.objs.length ∧ (e.k = 1 → 0 ≤ e.a ∧ e.a.toNat < s.objs.length) := by
  unfold applyS at h
  by_cases hc : chkE e ≠ 0
  · rw [if_pos hc] at h
    have := congrArg Prod.snd h
    exact absurd this hc
  have hc0 : chkE e = 0 := by omega
  rw [if_neg hc] at h
  have hap : ∀ u, applyS t u = if chkE u ≠ 0 then (sT0, chkE u) else if u.k = 0 then ap0 t u else if u.k = 1 then ap1 t u else if u.k = 2 then ap2 t u else if u.k = 3 then ap3 t u else if u.k = 4 then ap4 t u else ap5 t u := fun _ => rfl
  rw [hap, if_neg (by omega)]
  clear hap
  obtain ⟨k, a, b, c, d, f⟩ := e
  rcases chkE_kind hc0 with ⟨hk, h1⟩ | ⟨hk, h1⟩ | ⟨hk, h1⟩ | ⟨hk, h1⟩ | ⟨hk, h1⟩ | ⟨hk, h1⟩
  all_goals simp only at hk h1 h
  all_goals subst hk
  all_goals simp only [Int.reduceEq, if_true, if_false] at h
  · obtain ⟨u, h2, h3, h4⟩ := back0 (e := ⟨0, a, b, c, d, f⟩) (f := ⟨5, a, b, c, d, f⟩) ⟨rfl, rfl, rfl⟩ h
    exact ⟨u, h2, h3, h4, fun h => by cases h⟩
  · obtain ⟨u, h2, h3, h4⟩ := back5 (e := ⟨5, a, b, c, d, f⟩) (f := ⟨0, a, b, c, d, f⟩) hn ⟨rfl, rfl, rfl⟩ h
    exact ⟨u, h2, h3, h4, fun h => by cases h⟩
  · obtain ⟨u, h2, h3, h4, h5⟩ := back1 (e := ⟨1, a, b, c, d, f⟩) (f := ⟨1, a, d, f, b, c⟩) (by simp only; omega) (by simp only; omega) ⟨rfl, rfl, rfl, rfl, rfl⟩ h
    exact ⟨u, h2, h3, h4, fun _ => ⟨h1.1, h5⟩⟩
  · obtain ⟨u, h2, h3, h4⟩ := back2 (e := ⟨2, a, b, c, d, f⟩) (f := ⟨2, a, b, d, c, f⟩) (by simp only; omega) ⟨rfl, rfl, rfl, rfl⟩ h
    exact ⟨u, h2, h3, h4, fun h => by cases h⟩
  · obtain ⟨u, h2, h3, h4⟩ := back3 (e := ⟨3, a, b, c, d, f⟩) (f := ⟨3, a, b, d, c, f⟩) ⟨rfl, rfl, rfl, rfl⟩ h
    exact ⟨u, h2, h3, h4, fun h => by cases h⟩
  · obtain ⟨u, h2, h3, h4⟩ := back4 (e := ⟨4, a, b, c, d, f⟩) (f := ⟨4, a, b, d, c, f⟩) ⟨rfl, rfl, rfl⟩ h
    exact ⟨u, h2, h3, h4, fun h => by cases h⟩
end Go.Proofs.Ytmneajmedopheaa
namespace Go.Proofs.Ytmneajmedopheaa
open Go.RowKit Ex
set_option maxRecDepth 100000
theorem applyS_ok {s : StT} {e : EvT} (h : chkE e = 0) : applyS s e = if e.k = 0 then ap0 s e else if e.k = 1 then ap1 s e else if e.k = 2 then ap2 s e else if e.k = 3 then ap3 s e else if e.k = 4 then ap4 s e else ap5 s e := by
  unfold applyS; rw [if_neg (by omega)]
theorem apply_bad {s : StT} {e : EvT} (h : (applyS s e).2 ≠ 0) : (applyS s e).1 = sT0 := by
  have b0 : ∀ r : StT × Int, r.2 ≠ 0 → (r = ap0 s e ∨ r = ap1 s e ∨ r = ap2 s e ∨ r = ap3 s e ∨ r = ap4 s e ∨ r = ap5 s e) → r.1 = sT0 := by
    rintro r hr (rfl | rfl | rfl | rfl | rfl | rfl)
    · unfold ap0 at hr ⊢; split <;> simp_all
    · unfold ap1 at hr ⊢
      split
      · rfl
      rename_i n1
      rw [if_neg n1] at hr
      split
      · rfl
      rename_i n2
      rw [if_neg n2] at hr
      split
      · rfl
      rename_i n3
      rw [if_neg n3] at hr
      exact absurd rfl hr
    · unfold ap2 at hr ⊢; repeat' split
      all_goals first | rfl | (exfalso; simp_all)
    · unfold ap3 at hr ⊢; split <;> simp_all
    · unfold ap4 at hr ⊢; split <;> simp_all
    · unfold ap5 at hr ⊢; split
      · rfl
      · rename_i hq; rw [if_neg hq] at hr; exact absurd rfl hr
  by_cases hc : chkE e = 0
  · rw [applyS_ok hc] at h ⊢
    refine b0 _ h ?_
    repeat' split
    all_goals simp
  · unfold applyS; rw [if_pos hc]
theorem updL_len (L : Nat → List Int) (z : Nat) (l : List Int) (m : Nat) (h : l.length ≤ (L z).length + m) (y : Nat) : (updL L z l y).length ≤ (L y).length + m := by
  by_cases e : y = z
  · subst e; rw [updL_at]; exact h
  · rw [updL_ne _ e]; omega
theorem rmL_le (l : List Int) (i : Nat) : (rmL l i).length ≤ l.length := by
  unfold rmL; rw [List.length_append, List.length_take, List.length_drop]; omega
theorem insL_le (l : List Int) (i : Nat) (x : Int) : (insL l i x).length ≤ l.length + 1 := by
  unfold insL; simp; omega
theorem ap_len (s : StT) (e : EvT) : (applyS s e).1.objs.length ≤ s.objs.length + 1 ∧ ∀ z, ((applyS s e).1.lists z).length ≤ (s.lists z).length + 1 := by
  have h0 : (sT0.objs.length ≤ s.objs.length + 1 ∧ ∀ z, (sT0.lists z).length ≤ (s.lists z).length + 1) := ⟨by simp [sT0], fun z => by simp [sT0]⟩
  by_cases hb : (applyS s e).2 = 0
  case neg => rw [apply_bad hb]; exact h0
  by_cases hc : chkE e = 0
  case neg => unfold applyS; rw [if_pos hc]; exact h0
  rw [applyS_ok hc]
  repeat' split
  · unfold ap0; split
    · exact h0
    · exact ⟨by simp, fun z => updL_len _ _ _ 1 (by simp) z⟩
  · unfold ap1; repeat' split
    · exact h0
    · exact h0
    · exact h0
    · refine ⟨by simp [setO_len], fun z => ?_⟩
      have h1 := updL_len s.lists e.b.toNat (rmL (s.lists e.b.toNat) e.c.toNat) 0 (rmL_le _ _)
      have h2 := updL_len (mv1 s e) e.d.toNat (insL (mv1 s e e.d.toNat) e.e.toNat e.a) 1 (insL_le _ _ _) z
      have h3 : (mv1 s e z).length ≤ (s.lists z).length + 0 := h1 z
      simp only
      omega
  · unfold ap2; repeat' split
    · exact h0
    · exact h0
    · exact ⟨by simp [setO_len], fun z => Nat.le_succ _⟩
  · unfold ap3; split
    · exact h0
    · exact ⟨Nat.le_succ _, fun z => Nat.le_succ _⟩
  · unfold ap4; split
    · exact h0
    · exact ⟨Nat.le_succ _, fun z => Nat.le_succ _⟩
  · unfold ap5; split
    · exact h0
    · exact ⟨by simp; omega, fun z => updL_len _ _ _ 1 (by simp; omega) z⟩
end Go.Proofs.Ytmneajmedopheaa
namespace Go.Proofs.Ytmneajmedopheaa
open Go.RowKit Ex
set_option maxRecDepth 100000
def invL (l : List EvT) : List EvT := (l.map invE).reverse
theorem invL_len (l : List EvT) : (invL l).length = l.length := by simp [invL]
/-- Does an event make, or unmake; does it set a field; do two set the same. -/
def isCut (e : EvT) : Bool := decide (e.k = 0) || decide (e.k = 5)
def isSet (e : EvT) : Bool := decide (2 ≤ e.k) && decide (e.k ≤ 4)
def sameK (x e : EvT) : Bool := decide (x.k = e.k) && decide (x.a = e.a) && decide (x.b = e.b)
theorem isCut_iff {e : EvT} : isCut e = true ↔ e.k = 0 ∨ e.k = 5 := by simp [isCut]
theorem isSet_iff {e : EvT} : isSet e = true ↔ 2 ≤ e.k ∧ e.k ≤ 4 := by simp [isSet]
theorem sameK_iff {x e : EvT} : sameK x e = true ↔ x.k = e.k ∧ x.a = e.a ∧ x.b = e.b := by simp [sameK, and_assoc]
theorem set_kinds {x : EvT} (h : isSet x = true) : x.k = 2 ∨ x.k = 3 ∨ x.k = 4 := by
  rw [isSet_iff] at h; omega
/-- A set laid to the sets of a span. -/
def insE : List EvT → EvT → List EvT
  | [], e => [e]
  | x :: r, e => if sameK x e = true then { x with d := e.d } :: r else x :: insE r e
def finE (f : List EvT) : List EvT := f.filter fun e => decide (e.c ≠ e.d)
def Apart (f : List EvT) : Prop := f.Pairwise fun x y => sameK x y = false
theorem sameK_cong {x y e : EvT} (h : sameK x y = true) : sameK x e = sameK y e := by
  obtain ⟨a, b, c⟩ := sameK_iff.1 h
  unfold sameK; rw [a, b, c]
theorem sameK_symm {x y : EvT} : sameK x y = sameK y x := by
  rw [Bool.eq_iff_iff, sameK_iff, sameK_iff]
  exact ⟨fun ⟨a, b, c⟩ => ⟨a.symm, b.symm, c.symm⟩, fun ⟨a, b, c⟩ => ⟨a.symm, b.symm, c.symm⟩⟩
theorem ins_key {f : List EvT} {e y : EvT} (hy : y ∈ insE f e) : (∃ x ∈ f, sameK x y = true) ∨ y = e := by
  induction f with
  | nil => simp [insE] at hy; exact .inr hy
  | cons x r ih =>
    simp only [insE] at hy
    split at hy
    · rcases List.mem_cons.1 hy with rfl | h
      · exact .inl ⟨x, List.mem_cons_self .., by rw [sameK_iff]; exact ⟨rfl, rfl, rfl⟩⟩
      · exact .inl ⟨y, List.mem_cons_of_mem _ h, by rw [sameK_iff]; exact ⟨rfl, rfl, rfl⟩⟩
    · rcases List.mem_cons.1 hy with rfl | h
      · exact .inl ⟨y, List.mem_cons_self .., by rw [sameK_iff]; exact ⟨rfl, rfl, rfl⟩⟩
      · rcases ih h with ⟨z, hz, hk⟩ | h
        · exact .inl ⟨z, List.mem_cons_of_mem _ hz, hk⟩
        · exact .inr h
theorem ins_apart {f : List EvT} {e : EvT} (h : Apart f) : Apart (insE f e) := by
  unfold Apart at h ⊢
  induction f with
  | nil => simp [insE]
  | cons x r ih =>
    rw [List.pairwise_cons] at h
    simp only [insE]
    split
    · rename_i hk
      rw [List.pairwise_cons]
      exact ⟨fun y hy => by rw [show sameK { x with d := e.d } y = sameK x y from rfl]; exact h.1 y hy, h.2⟩
    · rename_i hk
      rw [List.pairwise_cons]
      refine ⟨fun y hy => ?_, ih h.2⟩
      rcases ins_key hy with ⟨z, hz, hzk⟩ | rfl
      · rw [sameK_symm, ← sameK_cong hzk, sameK_symm]; exact h.1 z hz
      · simpa using hk
theorem ins_sets {f : List EvT} {e : EvT} (hf : ∀ x ∈ f, isSet x = true) (he : isSet e = true) : ∀ x ∈ insE f e, isSet x = true := by
  intro y hy
  rcases ins_key hy with ⟨z, hz, hzk⟩ | rfl
  · have := hf z hz
    rw [isSet_iff] at this ⊢
    rw [← (sameK_iff.1 hzk).1]; exact this
  · exact he
theorem insE_len (f : List EvT) (e : EvT) : (insE f e).length ≤ f.length + 1 := by
  induction f with
  | nil => simp [insE]
  | cons x r ih =>
    simp only [insE]
    split
    · simp
    · simp only [List.length_cons]; omega
theorem ins_new {f : List EvT} {e : EvT} (h : ∀ x ∈ f, sameK x e = false) : insE f e = f ++ [e] := by
  induction f with
  | nil => rfl
  | cons x r ih =>
    simp only [insE]
    rw [if_neg (by rw [h x (List.mem_cons_self ..)]; simp), ih fun y hy => h y (List.mem_cons_of_mem _ hy)]
    rfl
theorem fin_fin (f : List EvT) : finE (finE f) = finE f := by unfold finE; rw [List.filter_filter]; congr 1; funext e; simp
theorem fin_mem {f : List EvT} {x : EvT} (h : x ∈ finE f) : x ∈ f := (List.mem_filter.1 h).1
theorem fin_len (f : List EvT) : (finE f).length ≤ f.length := List.length_filter_le ..
theorem fin_apart {f : List EvT} (h : Apart f) : Apart (finE f) := by unfold Apart finE at *; exact h.filter _
namespace Ex
/-- What stands behind the last cut: what came out, moves, sets. -/
structure NtT where
  o : List EvT
  m : List EvT
  f : List EvT
end Ex
def stepN (p : NtT) (e : EvT) : NtT :=
  if isCut e = true then ⟨p.o ++ p.m ++ finE p.f ++ [e], [], []⟩ else if isSet e = true then ⟨p.o, p.m, insE p.f e⟩ else ⟨p.o, p.m ++ [e], p.f⟩
def foldN (p : NtT) (l : List EvT) : NtT := l.foldl stepN p
def nt0 : NtT := ⟨[], [], []⟩
def outN (p : NtT) : List EvT := p.o ++ p.m ++ finE p.f
/-- The net. -/
def netL (l : List EvT) : List EvT := outN (foldN nt0 l)
theorem foldN_app (p : NtT) (a b : List EvT) : foldN p (a ++ b) = foldN (foldN p a) b := List.foldl_append ..
theorem foldN_snoc (p : NtT) (l : List EvT) (e : EvT) : foldN p (l ++ [e]) = stepN (foldN p l) e := by rw [foldN_app]; rfl
theorem foldN_moves : ∀ (m : List EvT) (o m0 f0 : List EvT), (∀ x ∈ m, isCut x = false ∧ isSet x = false) → foldN ⟨o, m0, f0⟩ m = ⟨o, m0 ++ m, f0⟩
  | [], o, m0, f0, _ => by rw [List.append_nil]; rfl
  | x :: m, o, m0, f0, h => by
    obtain ⟨h1, h2⟩ := h x (List.mem_cons_self ..)
    show foldN (stepN ⟨o, m0, f0⟩ x) m = _
    have : stepN ⟨o, m0, f0⟩ x = ⟨o, m0 ++ [x], f0⟩ := by unfold stepN; rw [if_neg (by simp [h1]), if_neg (by simp [h2])]
    rw [this, foldN_moves m o _ f0 fun y hy => h y (List.mem_cons_of_mem _ hy), List.append_assoc]; rfl
theorem set_cut {e : EvT} (h : isSet e = true) : isCut e = false := by
  cases hc : isCut e
  · rfl
  · rw [isSet_iff] at h; rw [isCut_iff] at hc; omega
theorem foldN_sets : ∀ (f : List EvT) (o m f0 : List EvT), (∀ x ∈ f, isSet x = true) → Apart (f0 ++ f) → foldN ⟨o, m, f0⟩ f = ⟨o, m, f0 ++ f⟩
  | [], o, m, f0, _, _ => by rw [List.append_nil]; rfl
  | x :: f, o, m, f0, h, ha => by
    have hx := h x (List.mem_cons_self ..)
    have hn : ∀ y ∈ f0, sameK y x = false := fun y hy => (List.pairwise_append.1 ha).2.2 y hy x (List.mem_cons_self ..)
    show foldN (stepN ⟨o, m, f0⟩ x) f = _
    have : stepN ⟨o, m, f0⟩ x = ⟨o, m, f0 ++ [x]⟩ := by unfold stepN; rw [if_neg (by rw [set_cut hx]; simp), if_pos hx]; simp only; rw [ins_new hn]
    have e : f0 ++ [x] ++ f = f0 ++ x :: f := by rw [List.append_assoc]; rfl
    rw [this, foldN_sets f o m _ (fun y hy => h y (List.mem_cons_of_mem _ hy)) (by rw [e]; exact ha), e]
/-- What is so of every fold. -/
structure NtI (l : List EvT) (p : NtT) : Prop where
  m : ∀ x ∈ p.m, isCut x = false ∧ isSet x = false
  f : ∀ x ∈ p.f, isSet x = true
  a : Apart p.f
  o : foldN nt0 p.o = ⟨p.o, [], []⟩
  n : p.o.length + p.m.length + p.f.length ≤ l.length
theorem NtI.out {l : List EvT} {p : NtT} (h : NtI l p) : foldN nt0 (outN p) = ⟨p.o, p.m, finE p.f⟩ := by
  unfold outN
  rw [foldN_app, foldN_app, h.o, foldN_moves _ _ _ _ h.m, foldN_sets _ _ _ _ (fun x hx => h.f x (fin_mem hx)) (by rw [List.nil_append]; exact fin_apart h.a)]
  simp
theorem snoc_ind {P : List EvT → Prop} (h0 : P []) (h1 : ∀ l e, P l → P (l ++ [e])) (l : List EvT) : P l := by
  have h : ∀ r : List EvT, P r.reverse := by
    intro r
    induction r with
    | nil => exact h0
    | cons e r ih => rw [List.reverse_cons]; exact h1 _ _ ih
  rw [← l.reverse_reverse]; exact h _
theorem ntI (l : List EvT) : NtI l (foldN nt0 l) := by
  induction l using snoc_ind with
  | h0 => exact ⟨fun x hx => (by cases hx), fun x hx => (by cases hx), List.Pairwise.nil, rfl, Nat.le_refl _⟩
  | h1 l e ih =>
    rw [foldN_snoc]
    generalize foldN nt0 l = p at ih
    have ho := ih.out
    obtain ⟨o, m, f⟩ := p
    unfold stepN
    by_cases hc : isCut e = true
    · rw [if_pos hc]
      have he : o ++ m ++ finE f = outN ⟨o, m, f⟩ := rfl
      refine ⟨fun x hx => (by cases hx), fun x hx => (by cases hx), List.Pairwise.nil, ?_, ?_⟩
      · simp only
        rw [he, foldN_snoc, ho]
        unfold stepN
        rw [if_pos hc]
        simp only
        rw [fin_fin]; rfl
      · have := ih.n; have := fin_len f; simp only [List.length_append, List.length_nil, List.length_cons] at *; omega
    · rw [if_neg hc]
      have hcf : isCut e = false := by simpa using hc
      by_cases hs : isSet e = true
      · rw [if_pos hs]
        refine ⟨ih.m, ins_sets ih.f hs, ins_apart ih.a, ih.o, ?_⟩
        have := ih.n; have := insE_len f e; simp only [List.length_append, List.length_nil, List.length_cons] at *; omega
      · rw [if_neg hs]
        have hsf : isSet e = false := by simpa using hs
        refine ⟨fun x hx => ?_, ih.f, ih.a, ih.o, ?_⟩
        · rcases List.mem_append.1 hx with hx | hx
          · exact ih.m x hx
          · obtain rfl : x = e := by simpa using hx
            exact ⟨hcf, hsf⟩
        · have := ih.n; simp only [List.length_append, List.length_nil, List.length_cons] at *; omega
theorem net_net (l : List EvT) : netL (netL l) = netL l := by
  unfold netL
  rw [(ntI l).out]
  unfold outN
  simp only
  rw [fin_fin]
theorem net_len (l : List EvT) : (netL l).length ≤ l.length := by
  have := (ntI l).n
  have := fin_len (foldN nt0 l).f
  unfold netL outN
  simp only [List.length_append]; omega
theorem take_snoc {l : List EvT} {k : Nat} {x : EvT} (h : l[k]? = some x) : l.take (k + 1) = l.take k ++ [x] := by
  rw [List.take_add_one, h]; rfl
end Go.Proofs.Ytmneajmedopheaa
namespace Go.Proofs.Ytmneajmedopheaa
open Go.RowKit Ex
set_option maxRecDepth 100000
/-- The state behind events, if none has an error. -/
def goS : StT → List EvT → Option StT
  | s, [] => some s
  | s, e :: l => if (applyS s e).2 = 0 then goS (applyS s e).1 l else none
/-- Run: the state, how many were run, an error's number. -/
def runS : StT → List EvT → StT × Nat × Int
  | s, [] => (s, 0, 0)
  | s, e :: l => if (applyS s e).2 = 0 then ((runS (applyS s e).1 l).1, (runS (applyS s e).1 l).2.1 + 1, (runS (applyS s e).1 l).2.2) else (sT0, 0, (applyS s e).2)
theorem goS_app (s : StT) : ∀ (a b : List EvT), goS s (a ++ b) = (goS s a).bind fun t => goS t b := by
  intro a
  induction a generalizing s with
  | nil => intro b; rfl
  | cons e a ih =>
    intro b
    simp only [List.cons_append, goS]
    split
    · exact ih _ b
    · rfl
theorem goS_one (s : StT) (e : EvT) : goS s [e] = if (applyS s e).2 = 0 then some (applyS s e).1 else none := by
  simp only [goS]
theorem goS_snoc {s t : StT} {l : List EvT} {e : EvT} (h : goS s (l ++ [e]) = some t) : ∃ u, goS s l = some u ∧ applyS u e = (t, 0) := by
  rw [goS_app] at h
  cases hu : goS s l with
  | none => rw [hu] at h; cases h
  | some u =>
    rw [hu] at h
    have h : goS u [e] = some t := h
    rw [goS_one] at h
    split at h
    · rename_i h0
      injection h with h
      exact ⟨u, rfl, Prod.ext h h0⟩
    · cases h
theorem goS_next {s t u : StT} {l : List EvT} {e : EvT} (h : goS s l = some u) (h2 : applyS u e = (t, 0)) : goS s (l ++ [e]) = some t := by
  rw [goS_app, h]
  show goS u [e] = _
  rw [goS_one, h2, if_pos rfl]
theorem goS_cons {s t : StT} {l : List EvT} {e : EvT} (h : goS s (e :: l) = some t) : ∃ u, applyS s e = (u, 0) ∧ goS u l = some t := by
  simp only [goS] at h
  split at h
  · rename_i h0
    exact ⟨_, Prod.ext rfl h0, h⟩
  · cases h
theorem goS_put {s t u : StT} {l : List EvT} {e : EvT} (h : applyS s e = (u, 0)) (h2 : goS u l = some t) : goS s (e :: l) = some t := by
  simp only [goS]
  rw [h, if_pos rfl]; exact h2
theorem runS_ok {s t : StT} {l : List EvT} (h : goS s l = some t) : runS s l = (t, l.length, 0) := by
  induction l generalizing s with
  | nil => injection h with h; subst h; rfl
  | cons e l ih =>
    obtain ⟨u, h1, h2⟩ := goS_cons h
    simp only [runS]
    rw [h1, if_pos rfl, ih h2]; rfl
theorem runS_bad {s t : StT} {l : List EvT} {k : Nat} {e : EvT} (h : goS s (l.take k) = some t) (he : l[k]? = some e) (hb : (applyS t e).2 ≠ 0) : runS s l = (sT0, k, (applyS t e).2) := by
  induction l generalizing s k with
  | nil => simp at he
  | cons x l ih =>
    cases k with
    | zero =>
      have h : some s = some t := h
      injection h with h
      subst h
      have he : some x = some e := he
      injection he with he
      subst he
      simp only [runS]
      rw [if_neg hb]
    | succ k =>
      obtain ⟨u, h1, h2⟩ := goS_cons (l := l.take k) h
      simp only [runS]
      rw [h1, if_pos rfl, ih h2 (by simpa using he)]
theorem runS_inv {s : StT} {l : List EvT} (h : (runS s l).2.2 = 0) : goS s l = some (runS s l).1 ∧ (runS s l).2.1 = l.length := by
  induction l generalizing s with
  | nil => exact ⟨rfl, rfl⟩
  | cons e l ih =>
    simp only [runS] at h ⊢
    by_cases h0 : (applyS s e).2 = 0
    · rw [if_pos h0] at h ⊢
      obtain ⟨h1, h2⟩ := ih h
      refine ⟨?_, by simp [h2]⟩
      simp only [goS]
      rw [if_pos h0]; exact h1
    · rw [if_neg h0] at h; exact absurd h h0
theorem runS_err {s : StT} {l : List EvT} (h : (runS s l).2.2 ≠ 0) : (runS s l).1 = sT0 := by
  induction l generalizing s with
  | nil => exact absurd rfl h
  | cons e l ih =>
    simp only [runS] at h ⊢
    by_cases h0 : (applyS s e).2 = 0
    · rw [if_pos h0] at h ⊢; exact ih h
    · rw [if_neg h0]
theorem runS_cnt (s : StT) (l : List EvT) : (runS s l).2.1 ≤ l.length := by
  induction l generalizing s with
  | nil => exact Nat.le_refl _
  | cons e l ih =>
    simp only [runS]
    split
    · simp only [List.length_cons]; exact Nat.succ_le_succ (ih _)
    · exact Nat.zero_le _
theorem goS_len {s t : StT} {l : List EvT} (h : goS s l = some t) : t.objs.length ≤ s.objs.length + l.length ∧ ∀ z, (t.lists z).length ≤ (s.lists z).length + l.length := by
  induction l generalizing s with
  | nil => injection h with h; subst h; exact ⟨by simp, fun z => by simp⟩
  | cons e l ih =>
    obtain ⟨u, h1, h2⟩ := goS_cons h
    have h3 := ap_len s e
    rw [h1] at h3
    have h4 := ih h2
    simp only at h3
    refine ⟨by have := h3.1; have := h4.1; simp only [List.length_cons]; omega, fun z => by have := h3.2 z; have := h4.2 z; simp only [List.length_cons]; omega⟩
theorem runS_len (s : StT) (l : List EvT) : (runS s l).1.objs.length ≤ s.objs.length + l.length ∧ ∀ z, ((runS s l).1.lists z).length ≤ (s.lists z).length + l.length := by
  by_cases h : (runS s l).2.2 = 0
  · exact goS_len (runS_inv h).1
  · rw [runS_err h]; exact ⟨by simp [sT0], fun z => by simp [sT0]⟩
-- fields
/-- What stands in the field that an event sets; another number there. -/
def fld (s : StT) (x : EvT) : Int := if x.k = 2 then (s.objs.getD x.a.toNat fun _ => 0) x.b.toNat else if x.k = 3 then s.pl (x.a.toNat * 9 + x.b.toNat) else s.gm x.b.toNat
def put (s : StT) (x : EvT) (v : Int) : StT :=
  if x.k = 2 then ⟨setO s.objs x.a.toNat x.b.toNat v, s.lists, s.pl, s.gm⟩ else if x.k = 3 then ⟨s.objs, s.lists, updI s.pl (x.a.toNat * 9 + x.b.toNat) v, s.gm⟩ else ⟨s.objs, s.lists, s.pl, updI s.gm x.b.toNat v⟩
/-- Its number may be, and there is such a field. -/
structure OkF (s : StT) (x : EvT) : Prop where
  set : isSet x = true
  chk : chkE x = 0
  lt : x.k = 2 → x.a < (s.objs.length : Int)
theorem apply_set {s t : StT} {x : EvT} (hs : isSet x = true) : applyS s x = (t, 0) ↔ OkF s x ∧ fld s x = x.c ∧ t = put s x x.d := by
  constructor
  · intro h
    have hc : chkE x = 0 := by
      unfold applyS at h
      by_cases hc : chkE x ≠ 0
      · rw [if_pos hc] at h; exact absurd (congrArg Prod.snd h) hc
      · omega
    rw [applyS_ok hc] at h
    rcases set_kinds hs with hk | hk | hk
    · rw [if_neg (by omega), if_neg (by omega), if_pos hk] at h
      unfold ap2 at h
      split at h
      · have := congrArg Prod.snd h; simp at this
      rename_i n1
      split at h
      · have := congrArg Prod.snd h; simp at this
      rename_i n2
      refine ⟨⟨hs, hc, fun _ => by omega⟩, ?_, ?_⟩
      · unfold fld; rw [if_pos hk]; exact Classical.byContradiction n2
      · unfold put; rw [if_pos hk]; exact (congrArg Prod.fst h).symm
    · rw [if_neg (by omega), if_neg (by omega), if_neg (by omega), if_pos hk] at h
      unfold ap3 at h
      split at h
      · have := congrArg Prod.snd h; simp at this
      rename_i n2
      refine ⟨⟨hs, hc, fun h => by omega⟩, ?_, ?_⟩
      · unfold fld; rw [if_neg (by omega), if_pos hk]; exact Classical.byContradiction n2
      · unfold put; rw [if_neg (by omega), if_pos hk]; exact (congrArg Prod.fst h).symm
    · rw [if_neg (by omega), if_neg (by omega), if_neg (by omega), if_neg (by omega), if_pos hk] at h
      unfold ap4 at h
      split at h
      · have := congrArg Prod.snd h; simp at this
      rename_i n2
      refine ⟨⟨hs, hc, fun h => by omega⟩, ?_, ?_⟩
      · unfold fld; rw [if_neg (by omega), if_neg (by omega)]; exact Classical.byContradiction n2
      · unfold put; rw [if_neg (by omega), if_neg (by omega)]; exact (congrArg Prod.fst h).symm
  · rintro ⟨ho, hf, rfl⟩
    rw [applyS_ok ho.chk]
    rcases set_kinds hs with hk | hk | hk
    · rw [if_neg (by omega), if_neg (by omega), if_pos hk]
      unfold fld at hf; rw [if_pos hk] at hf
      unfold ap2 put
      rw [if_neg (by have := ho.lt hk; omega), if_neg (fun h => h hf), if_pos hk]
    · rw [if_neg (by omega), if_neg (by omega), if_neg (by omega), if_pos hk]
      unfold fld at hf; rw [if_neg (by omega), if_pos hk] at hf
      unfold ap3 put
      rw [if_neg (fun h => h hf), if_neg (by omega), if_pos hk]
    · rw [if_neg (by omega), if_neg (by omega), if_neg (by omega), if_neg (by omega), if_pos hk]
      unfold fld at hf; rw [if_neg (by omega), if_neg (by omega)] at hf
      unfold ap4 put
      rw [if_neg (fun h => h hf), if_neg (by omega), if_neg (by omega)]
/-- A set's numbers. -/
theorem OkF.rng {s : StT} {x : EvT} (h : OkF s x) : (x.k = 2 ∧ 0 ≤ x.a ∧ x.a < (s.objs.length : Int) ∧ 0 ≤ x.b ∧ x.b ≤ 17 ∧ x.b ≠ 3) ∨ (x.k = 3 ∧ 0 ≤ x.a ∧ x.a ≤ 1 ∧ 0 ≤ x.b ∧ x.b ≤ 8) ∨ (x.k = 4 ∧ x.a = 0 ∧ 0 ≤ x.b ∧ x.b ≤ 6) := by
  have h1 := h.lt
  rcases chkE_kind h.chk with g | g | g | g | g | g
  · have := set_kinds h.set; omega
  · have := set_kinds h.set; omega
  · have := set_kinds h.set; omega
  · obtain ⟨g1, _, g2, g3, g4, g5, _⟩ := g
    exact .inl ⟨g1, g2, h1 g1, g3, g4, by omega⟩
  · obtain ⟨g1, _, g2, g3, g4, g5, _⟩ := g
    exact .inr (.inl ⟨g1, g2, g3, g4, g5⟩)
  · obtain ⟨g1, _, g2, g3, g4, _⟩ := g
    exact .inr (.inr ⟨g1, g2, g3, g4⟩)
theorem put_objs_len (s : StT) (x : EvT) (v : Int) : (put s x v).objs.length = s.objs.length := by
  unfold put
  split
  · exact setO_len ..
  · split <;> rfl
theorem OkF.put {s : StT} {x y : EvT} {v : Int} (h : OkF s y) : OkF (put s x v) y := ⟨h.set, h.chk, fun hk => by rw [put_objs_len]; exact h.lt hk⟩
theorem OkF.unput {s : StT} {x y : EvT} {v : Int} (h : OkF (Go.Proofs.Ytmneajmedopheaa.put s x v) y) : OkF s y := ⟨h.set, h.chk, fun hk => by have := h.lt hk; rwa [put_objs_len] at this⟩
theorem getD_set_ne {os : List (Nat → Int)} {i j : Nat} (h : i ≠ j) (f d : Nat → Int) : (os.set i f).getD j d = os.getD j d := by
  rw [List.getD_eq_getElem?_getD, List.getElem?_set_ne h, ← List.getD_eq_getElem?_getD]
theorem updI_comm (f : Nat → Int) {i j : Nat} (h : i ≠ j) (x y : Int) : updI (updI f i x) j y = updI (updI f j y) i x := by
  funext n; unfold updI
  by_cases h1 : n = j
  · by_cases h2 : n = i
    · omega
    · simp [h1, show ¬ j = i by omega]
  · simp [h1]
theorem updI_upd' (f : Nat → Int) (i : Nat) (x y : Int) : updI (updI f i x) i y = updI f i y := by
  funext n; unfold updI; by_cases h : n = i <;> simp [h]
theorem setO_comm (os : List (Nat → Int)) {i j i' j' : Nat} (h : i ≠ i' ∨ j ≠ j') (hi : i < os.length) (hi' : i' < os.length) (x y : Int) : setO (setO os i j x) i' j' y = setO (setO os i' j' y) i j x := by
  by_cases e : i = i'
  · subst e
    have hj : j ≠ j' := by omega
    have hl : ∀ a b, i < (setO os a b x).length := fun a b => by rw [setO_len]; exact hi
    have e1 : setO (setO os i j x) i j' y = os.set i (updI (updI (os.getD i fun _ => 0) j x) j' y) := by
      rw [setO, setO_at hi, setO, List.set_set]
    have e2 : setO (setO os i j' y) i j x = os.set i (updI (updI (os.getD i fun _ => 0) j' y) j x) := by
      rw [setO, setO_at hi, setO, List.set_set]
    rw [e1, e2, updI_comm _ hj]
  · unfold setO
    rw [getD_set_ne e, getD_set_ne (Ne.symm e), List.set_comm _ _ e]
theorem setO_upd (os : List (Nat → Int)) {i j : Nat} (hi : i < os.length) (x y : Int) : setO (setO os i j x) i j y = setO os i j y := by
  rw [setO, setO_at hi, setO, List.set_set, updI_upd', setO]
theorem setO_self (os : List (Nat → Int)) {i j : Nat} (hi : i < os.length) : setO os i j ((os.getD i fun _ => 0) j) = os := by
  unfold setO
  have e : updI (os.getD i fun _ => 0) j ((os.getD i fun _ => 0) j) = os[i] := by
    rw [getD_in _ hi]; funext n; unfold updI; by_cases h : n = j <;> simp [h]
  rw [e, List.set_getElem_self]
/-- Fields of other names stand apart. -/
theorem fld_put_ne {s : StT} {x y : EvT} {v : Int} (hx : OkF s x) (hy : OkF s y) (h : sameK x y = false) : fld (put s x v) y = fld s y := by
  have hne : ¬ (x.k = y.k ∧ x.a = y.a ∧ x.b = y.b) := fun e => by rw [sameK_iff.2 e] at h; cases h
  unfold fld put
  rcases hx.rng with ⟨k1, a1, a2, b1, b2, b3⟩ | ⟨k1, a1, a2, b1, b2⟩ | ⟨k1, a1, b1, b2⟩ <;> rcases hy.rng with ⟨k2, c1, c2, d1, d2, d3⟩ | ⟨k2, c1, c2, d1, d2⟩ | ⟨k2, c1, d1, d2⟩ <;> simp only [k1, k2, Int.reduceEq, if_true, if_false]
  · by_cases e : x.a.toNat = y.a.toNat
    · rw [← e, setO_at (by omega)]
      unfold updI
      rw [if_neg (by omega)]
    · unfold setO; rw [getD_set_ne e]
  · unfold updI; rw [if_neg (by omega)]
  · unfold updI; rw [if_neg (by omega)]
theorem put_comm {s : StT} {x y : EvT} {v u : Int} (hx : OkF s x) (hy : OkF s y) (h : sameK x y = false) : put (put s x v) y u = put (put s y u) x v := by
  have hne : ¬ (x.k = y.k ∧ x.a = y.a ∧ x.b = y.b) := fun e => by rw [sameK_iff.2 e] at h; cases h
  unfold put
  rcases hx.rng with ⟨k1, a1, a2, b1, b2, b3⟩ | ⟨k1, a1, a2, b1, b2⟩ | ⟨k1, a1, b1, b2⟩ <;> rcases hy.rng with ⟨k2, c1, c2, d1, d2, d3⟩ | ⟨k2, c1, c2, d1, d2⟩ | ⟨k2, c1, d1, d2⟩ <;> simp only [k1, k2, Int.reduceEq, if_true, if_false]
  · rw [setO_comm _ (by omega) (by omega) (by omega)]
  · rw [updI_comm _ (by omega)]
  · rw [updI_comm _ (by omega)]
theorem fld_put {s : StT} {x : EvT} {v : Int} (hx : OkF s x) : fld (put s x v) x = v := by
  unfold fld put
  rcases hx.rng with ⟨k1, a1, a2, b1, b2, b3⟩ | ⟨k1, a1, a2, b1, b2⟩ | ⟨k1, a1, b1, b2⟩ <;> simp only [k1, Int.reduceEq, if_true, if_false]
  · rw [setO_at (by omega)]; simp [updI]
  · simp [updI]
  · simp [updI]
theorem put_put {s : StT} {x : EvT} {v u : Int} (hx : OkF s x) : put (put s x v) x u = put s x u := by
  unfold put
  rcases hx.rng with ⟨k1, a1, a2, b1, b2, b3⟩ | ⟨k1, a1, a2, b1, b2⟩ | ⟨k1, a1, b1, b2⟩ <;> simp only [k1, Int.reduceEq, if_true, if_false]
  · rw [setO_upd _ (by omega)]
  · rw [updI_upd']
  · rw [updI_upd']
theorem put_fld {s : StT} {x : EvT} (hx : OkF s x) : put s x (fld s x) = s := by
  unfold fld put
  rcases hx.rng with ⟨k1, a1, a2, b1, b2, b3⟩ | ⟨k1, a1, a2, b1, b2⟩ | ⟨k1, a1, b1, b2⟩ <;> simp only [k1, Int.reduceEq, if_true, if_false]
  · rw [setO_self _ (by omega)]
  · rw [upd_self']
  · rw [upd_self']
where upd_self' (f : Nat → Int) (i : Nat) : updI f i (f i) = f := by funext n; unfold updI; by_cases h : n = i <;> simp [h]
end Go.Proofs.Ytmneajmedopheaa
namespace Go.Proofs.Ytmneajmedopheaa
open Go.RowKit Ex
set_option maxRecDepth 100000
/-- Behind a set of another field, a set may come ahead. -/
theorem set_swap {s s1 s2 : StT} {x e : EvT} (hx : isSet x = true) (he : isSet e = true) (hk : sameK x e = false) (h1 : applyS s x = (s1, 0)) (h2 : applyS s1 e = (s2, 0)) : ∃ u, applyS s e = (u, 0) ∧ applyS u x = (s2, 0) := by
  obtain ⟨o1, f1, rfl⟩ := (apply_set hx).1 h1
  obtain ⟨o2, f2, rfl⟩ := (apply_set he).1 h2
  have o3 := o2.unput
  have hk' : sameK e x = false := by
    cases h : sameK e x
    · rfl
    · obtain ⟨a, b, c⟩ := sameK_iff.1 h
      rw [sameK_iff.2 ⟨a.symm, b.symm, c.symm⟩] at hk; cases hk
  refine ⟨_, (apply_set he).2 ⟨o3, by rw [← f2, fld_put_ne o1 o3 hk], rfl⟩, (apply_set hx).2 ⟨o1.put, by rw [fld_put_ne o3 o1 hk']; exact f1, put_comm o1 o3 hk⟩⟩
/-- Two sets of one field are one. -/
theorem set_join {s s1 s2 : StT} {x e : EvT} (hx : isSet x = true) (hk : sameK x e = true) (h1 : applyS s x = (s1, 0)) (h2 : applyS s1 e = (s2, 0)) : applyS s { x with d := e.d } = (s2, 0) := by
  obtain ⟨e1, e2, e3⟩ := sameK_iff.1 hk
  have he : isSet e = true := by rw [isSet_iff, ← e1, ← isSet_iff]; exact hx
  have hx' : isSet { x with d := e.d } = true := hx
  obtain ⟨o1, f1, rfl⟩ := (apply_set hx).1 h1
  obtain ⟨o2, f2, rfl⟩ := (apply_set he).1 h2
  have hput : ∀ (t : StT) (v : Int), put t e v = put t x v := fun t v => by unfold put; rw [e1, e2, e3]
  have hchk : chkE { x with d := e.d } = 0 := by
    have c1 := o1.chk
    have c2 := o2.chk
    obtain ⟨k, a, b, c, d, f⟩ := x
    obtain ⟨k', a', b', c', d', f'⟩ := e
    simp only at e1 e2 e3
    subst e1 e2 e3
    simp only
    rcases set_kinds hx with hk | hk | hk <;> simp only at hk <;> subst hk
    · rw [ck2] at c1 c2 ⊢
      by_cases hf : f = 0
      · rw [if_pos hf] at c1 ⊢
        by_cases hf' : f' = 0
        · rw [if_pos hf'] at c2; exact c2
        · rw [if_neg hf'] at c2; omega
      · rw [if_neg hf] at c1; omega
    · rw [ck3] at c1 c2 ⊢
      by_cases hf : f = 0
      · rw [if_pos hf] at c1 ⊢
        by_cases hf' : f' = 0
        · rw [if_pos hf'] at c2; exact c2
        · rw [if_neg hf'] at c2; omega
      · rw [if_neg hf] at c1; omega
    · rw [ck4] at c1 c2 ⊢
      by_cases hf : f = 0 ∧ a = 0
      · rw [if_pos hf] at c1 ⊢
        by_cases hf' : f' = 0 ∧ a = 0
        · rw [if_pos hf'] at c2; exact c2
        · rw [if_neg hf'] at c2; omega
      · rw [if_neg hf] at c1; omega
  refine (apply_set hx').2 ⟨⟨hx', hchk, o1.lt⟩, f1, ?_⟩
  rw [hput, put_put o1]
  rfl
theorem set_none {s t : StT} {x : EvT} (hx : isSet x = true) (h : applyS s x = (t, 0)) (hc : x.c = x.d) : t = s := by
  obtain ⟨o, f, rfl⟩ := (apply_set hx).1 h
  rw [← hc, ← f, put_fld o]
/-- What is neither a cut nor a set is a move. -/
theorem move_kind {s t : StT} {e : EvT} (h1 : isCut e = false) (h2 : isSet e = false) (h : applyS s e = (t, 0)) : e.k = 1 ∧ chkE e = 0 := by
  have hc : chkE e = 0 := by
    unfold applyS at h
    by_cases hc : chkE e ≠ 0
    · rw [if_pos hc] at h; exact absurd (congrArg Prod.snd h) hc
    · omega
  refine ⟨?_, hc⟩
  have n0 : ¬ (e.k = 0 ∨ e.k = 5) := fun h => by rw [isCut_iff.2 h] at h1; cases h1
  have n1 : ¬ (2 ≤ e.k ∧ e.k ≤ 4) := fun h => by rw [isSet_iff.2 h] at h2; cases h2
  rcases chkE_kind hc with g | g | g | g | g | g <;> omega
theorem put_lists (s : StT) (x : EvT) (v : Int) : (put s x v).lists = s.lists := by
  unfold put
  split
  · rfl
  · split <;> rfl
theorem apply_move {s : StT} {e : EvT} (hk : e.k = 1) (hc : chkE e = 0) : applyS s e = ap1 s e := by
  rw [applyS_ok hc, if_neg (by omega), if_pos hk]
/-- Behind a set, a move may come ahead. -/
theorem move_swap {s s1 s2 : StT} {x e : EvT} (hx : isSet x = true) (hk : e.k = 1) (hc : chkE e = 0) (h1 : applyS s x = (s1, 0)) (h2 : applyS s1 e = (s2, 0)) : ∃ u, applyS s e = (u, 0) ∧ applyS u x = (s2, 0) := by
  obtain ⟨o, f, rfl⟩ := (apply_set hx).1 h1
  rw [apply_move hk hc] at h2 ⊢
  have hea : 0 ≤ e.a := by
    rcases chkE_kind hc with g | g | g | g | g | g <;> omega
  have hm : mv1 (put s x x.d) e = mv1 s e := by unfold mv1; rw [put_lists]
  unfold ap1 at h2
  rw [put_objs_len, put_lists, hm] at h2
  split at h2
  · have := congrArg Prod.snd h2; simp at this
  rename_i n1
  split at h2
  · have := congrArg Prod.snd h2; simp at this
  rename_i n2
  split at h2
  · have := congrArg Prod.snd h2; simp at this
  rename_i n3
  obtain rfl := congrArg Prod.fst h2
  clear h2
  have ha : e.a.toNat < s.objs.length := by omega
  refine ⟨⟨setO s.objs e.a.toNat 3 e.d, updL (mv1 s e) e.d.toNat (insL (mv1 s e e.d.toNat) e.e.toNat e.a), s.pl, s.gm⟩, ?_, ?_⟩
  · unfold ap1
    rw [if_neg n1, if_neg n2, if_neg n3]
  · refine (apply_set hx).2 ⟨⟨hx, o.chk, fun h => by simp only [setO_len]; exact o.lt h⟩, ?_, ?_⟩
    · rw [← f]
      unfold fld
      rcases o.rng with ⟨k1, a1, a2, b1, b2, b3⟩ | ⟨k1, a1, a2, b1, b2⟩ | ⟨k1, a1, b1, b2⟩ <;> simp only [k1, Int.reduceEq, if_true, if_false]
      by_cases e1 : e.a.toNat = x.a.toNat
      · rw [← e1, setO_at ha]; unfold updI; rw [if_neg (by omega)]
      · unfold setO; rw [getD_set_ne e1]
    · unfold put
      rcases o.rng with ⟨k1, a1, a2, b1, b2, b3⟩ | ⟨k1, a1, a2, b1, b2⟩ | ⟨k1, a1, b1, b2⟩ <;> simp only [k1, Int.reduceEq, if_true, if_false]
      rw [setO_comm _ (by omega) (by omega) ha]
/-- What may come ahead of each may come ahead of all. -/
theorem pull {P : EvT → Prop} {e : EvT} (hP : ∀ x, P x → ∀ {s s1 s2 : StT}, applyS s x = (s1, 0) → applyS s1 e = (s2, 0) → ∃ u, applyS s e = (u, 0) ∧ applyS u x = (s2, 0)) :
    ∀ (f : List EvT) {s t t2 : StT}, (∀ x ∈ f, P x) → goS s f = some t → applyS t e = (t2, 0) → ∃ u, applyS s e = (u, 0) ∧ goS u f = some t2
  | [], s, t, t2, _, h, h2 => by
    injection h with h; subst h
    exact ⟨t2, h2, rfl⟩
  | x :: f, s, t, t2, hf, h, h2 => by
    obtain ⟨s1, g1, g2⟩ := goS_cons h
    obtain ⟨u1, g3, g4⟩ := pull hP f (fun y hy => hf y (List.mem_cons_of_mem _ hy)) g2 h2
    obtain ⟨u, g5, g6⟩ := hP x (hf x (List.mem_cons_self ..)) g1 g3
    exact ⟨u, g5, goS_put g6 g4⟩
/-- A set laid to a span's leads where it leads behind them. -/
theorem ins_go : ∀ (f : List EvT) {e : EvT} {s t t2 : StT}, (∀ x ∈ f, isSet x = true) → Apart f → isSet e = true → goS s f = some t → applyS t e = (t2, 0) → goS s (insE f e) = some t2
  | [], e, s, t, t2, _, _, _, h, h2 => by
    injection h with h; subst h
    exact goS_put h2 rfl
  | x :: r, e, s, t, t2, hf, ha, he, h, h2 => by
    obtain ⟨s1, g1, g2⟩ := goS_cons h
    have hr : ∀ y ∈ r, isSet y = true := fun y hy => hf y (List.mem_cons_of_mem _ hy)
    unfold Apart at ha
    rw [List.pairwise_cons] at ha
    simp only [insE]
    split
    · rename_i hk
      have hx := hf x (List.mem_cons_self ..)
      obtain ⟨u, g3, g4⟩ := pull (P := fun y => isSet y = true ∧ sameK y e = false) (e := e) (fun y hy => fun h1 h2 => set_swap hy.1 he hy.2 h1 h2) r (fun y hy => ⟨hr y hy, by rw [sameK_symm, ← sameK_cong hk]; exact ha.1 y hy⟩) g2 h2
      exact goS_put (set_join hx hk g1 g3) g4
    · exact goS_put g1 (ins_go r hr ha.2 he g2 h2)
theorem fin_go : ∀ (f : List EvT) {s t : StT}, (∀ x ∈ f, isSet x = true) → goS s f = some t → goS s (finE f) = some t
  | [], s, t, _, h => h
  | x :: r, s, t, hf, h => by
    obtain ⟨s1, g1, g2⟩ := goS_cons h
    have hr := fin_go r (fun y hy => hf y (List.mem_cons_of_mem _ hy)) g2
    have hx := hf x (List.mem_cons_self ..)
    unfold finE at hr ⊢
    rw [List.filter_cons]
    split
    · exact goS_put g1 hr
    · rename_i hc
      have hc : x.c = x.d := by simpa using hc
      obtain rfl := set_none hx g1 hc
      exact hr
/-- The net so far leads where the events do. -/
theorem out_go {p : NtT} {s t : StT} (hf : ∀ x ∈ p.f, isSet x = true) (h1 : goS s (p.o ++ p.m ++ p.f) = some t) : goS s (outN p) = some t := by
  unfold outN
  rw [goS_app] at h1 ⊢
  cases hu : goS s (p.o ++ p.m) with
  | none => rw [hu] at h1; cases h1
  | some u =>
    rw [hu] at h1
    exact fin_go p.f hf h1
theorem ntG (l : List EvT) : ∀ s t, goS s l = some t → goS s ((foldN nt0 l).o ++ (foldN nt0 l).m ++ (foldN nt0 l).f) = some t := by
  induction l using snoc_ind with
  | h0 => exact fun s t h => h
  | h1 l e ih =>
    intro s t h
    obtain ⟨u, h1, h2⟩ := goS_snoc h
    have hI := ntI l
    have h3 := ih s u h1
    rw [foldN_snoc]
    generalize foldN nt0 l = p at ih hI h3
    have hr := out_go hI.f h3
    obtain ⟨o, m, f⟩ := p
    unfold stepN
    by_cases hc : isCut e = true
    · rw [if_pos hc]
      have he : o ++ m ++ finE f = outN ⟨o, m, f⟩ := rfl
      simp only [List.append_nil]
      rw [he]
      exact goS_next hr h2
    · rw [if_neg hc]
      have hcf : isCut e = false := by simpa using hc
      by_cases hs : isSet e = true
      · rw [if_pos hs]
        simp only at h3 ⊢
        rw [goS_app] at h3 ⊢
        cases hv : goS s (o ++ m) with
        | none => rw [hv] at h3; cases h3
        | some v =>
          rw [hv] at h3
          exact ins_go f hI.f hI.a hs h3 h2
      · rw [if_neg hs]
        have hsf : isSet e = false := by simpa using hs
        obtain ⟨hk, hck⟩ := move_kind hcf hsf h2
        simp only at h3 ⊢
        rw [goS_app] at h3
        cases hv : goS s (o ++ m) with
        | none => rw [hv] at h3; cases h3
        | some v =>
          rw [hv] at h3
          obtain ⟨w, g1, g2⟩ := pull (P := fun y => isSet y = true) (e := e) (fun y hy => fun h1 h2 => move_swap hy hk hck h1 h2) f hI.f h3 h2
          rw [← List.append_assoc, goS_app, goS_next hv g1]
          exact g2
theorem net_go {s t : StT} {l : List EvT} (h : goS s l = some t) : goS s (netL l) = some t := out_go (ntI l).f (ntG l s t h)
end Go.Proofs.Ytmneajmedopheaa
namespace Go.Proofs.Ytmneajmedopheaa
open Go.RowKit
/-- A list in blocks from base on, that may be written into. -/
def Mine (w : World) (base : Nat) (A : Option Addr) (n c : Nat) (l : List Int) : Prop :=
  Nums .i64 w w.heap.size A n l ∧ n ≤ c ∧ ∀ a, A = some a → ∃ g o cs t, a = ⟨g, o, none⟩ ∧ base ≤ g ∧ w.heap[g]? = some (.cells cs t (0, 0))
theorem Mine.of_own {w : World} {base : Nat} {A : Option Addr} {n c : Nat} {l : List Int} (h : Own .i64 3 w base A n c l) : Mine w base A n c l := by
  refine ⟨h.nums, h.cap, fun a ha => ?_⟩
  rcases h.2.2 with ⟨hv, _⟩ | ⟨g, cap, cur, hv, hb, hg, _⟩
  · injection hv with h1; rw [h1] at ha; cases ha
  · injection hv with h1
    rw [h1] at ha
    injection ha with ha
    exact ⟨g, 0, _, _, ha.symm, hb, hg⟩
theorem Mine.len {w : World} {base : Nat} {A : Option Addr} {n c : Nat} {l : List Int} (h : Mine w base A n c l) : l.length = n := h.1.len
theorem Mine.keep {w w' : World} {base : Nat} {A : Option Addr} {n c : Nat} {l : List Int} (h : Mine w base A n c l) (hb : Below w.heap.size w w') : Mine w' base A n c l := by
  refine ⟨(h.1.below hb).more hb.size, h.2.1, fun a ha => ?_⟩
  obtain ⟨g, o, cs, t, e, h1, h2⟩ := h.2.2 a ha
  exact ⟨g, o, cs, t, e, h1, (hb.block g (Array.getElem?_eq_some_iff.1 h2).1).trans h2⟩
/-- A number of it is written. -/
theorem Mine.set_ {w : World} {base g o n c : Nat} {l : List Int} (h : Mine w base (some ⟨g, o, none⟩) n c l) (i : Nat) (v : Int) : Mine (w.setCell ⟨g, o + i, none⟩ (.int .i64 v)) base (some ⟨g, o, none⟩) n c (l.set i v) := by
  obtain ⟨⟨hl, hN⟩, hc, hA⟩ := h
  obtain ⟨g', o', cs, t, e, h1, h2⟩ := hA _ rfl
  injection e with e1 e2
  subst e1 e2
  refine ⟨⟨by rw [List.length_set]; exact hl, fun j u hu => ⟨_, rfl, by simp [World.setCell]; exact (Array.getElem?_eq_some_iff.1 h2).1, ?_⟩⟩, hc, fun a ha => ⟨g, o, _, t, (Option.some.inj ha).symm, h1, heap_setCell_same w g (o + i) _ _ _ h2⟩⟩
  rw [Addr.add_mid]
  by_cases e : i = j
  · subst e
    have hj : i < l.length := by rw [← List.length_set (i := i) (a := v)]; exact (List.getElem?_eq_some_iff.1 hu).1
    rw [List.getElem?_set_self hj] at hu
    injection hu with hu
    subst hu
    obtain ⟨a, ea, _, hcell⟩ := hN i _ (List.getElem?_eq_getElem hj)
    injection ea with ea
    subst ea
    rw [Addr.add_mid] at hcell
    exact World.cell?_setCell_same (h := hcell) ..
  · rw [List.getElem?_set_ne e] at hu
    obtain ⟨a, ea, _, hcell⟩ := hN j u hu
    injection ea with ea
    subst ea
    rw [Addr.add_mid] at hcell
    rw [World.cell?_setCell_other (h := by intro h; injection h with h1 h2; omega)]
    exact hcell
theorem Mine.other {w : World} {base : Nat} {A : Option Addr} {n c : Nat} {l : List Int} (h : Mine w base A n c l) {g q : Nat} (hg : g < base) (v : Value) : Mine (w.setCell ⟨g, q, none⟩ v) base A n c l := by
  obtain ⟨⟨hl, hN⟩, hc, hA⟩ := h
  refine ⟨⟨hl, fun j u hu => ?_⟩, hc, fun a ha => ?_⟩
  · obtain ⟨a, ea, hb, hcell⟩ := hN j u hu
    obtain ⟨g', o', cs, t, e, h1, h2⟩ := hA a ea
    refine ⟨a, ea, by simpa [World.setCell] using hb, ?_⟩
    rw [World.cell?_setCell_other (h := by
      intro h
      have := congrArg Addr.block h
      rw [addr_block, e] at this
      simp at this
      omega)]
    exact hcell
  · obtain ⟨g', o', cs, t, e, h1, h2⟩ := hA a ha
    exact ⟨g', o', cs, t, e, h1, (heap_setCell_other w ⟨g, q, none⟩ g' v (by simp; omega)).trans h2⟩
/-- All of these blocks stay. -/
def MineA (w : World) (base : Nat) (A : Option Addr) : Prop := ∀ a, A = some a → ∃ g o cs t, a = ⟨g, o, none⟩ ∧ base ≤ g ∧ w.heap[g]? = some (.cells cs t (0, 0))
theorem MineA.stay {w w' : World} {base : Nat} {A : Option Addr} (h : MineA w base A) (hb : ∀ b, base ≤ b → b < w.heap.size → w'.heap[b]? = w.heap[b]?) : MineA w' base A := fun a ha => by
  obtain ⟨g, o, cs, t, e, h1, h2⟩ := h a ha
  exact ⟨g, o, cs, t, e, h1, (hb g h1 (Array.getElem?_eq_some_iff.1 h2).1).trans h2⟩
theorem MineA.base_le {w : World} {base b : Nat} {A : Option Addr} (h : MineA w base A) (hb : b ≤ base) : MineA w b A := fun a ha => by
  obtain ⟨g, o, cs, t, e, h1, h2⟩ := h a ha
  exact ⟨g, o, cs, t, e, by omega, h2⟩
theorem Mine.A {w : World} {base : Nat} {A : Option Addr} {n c : Nat} {l : List Int} (h : Mine w base A n c l) : MineA w base A := h.2.2
theorem Mine.stay {w w' : World} {base : Nat} {A : Option Addr} {n c : Nat} {l : List Int} (h : Mine w base A n c l) (hs : w.heap.size ≤ w'.heap.size) (hb : ∀ b, base ≤ b → b < w.heap.size → w'.heap[b]? = w.heap[b]?) : Mine w' base A n c l := by
  refine ⟨⟨h.1.1, fun i u hu => ?_⟩, h.2.1, MineA.stay h.A hb⟩
  obtain ⟨a, ea, h1, h2⟩ := h.1.2 i u hu
  obtain ⟨g, o, cs, t, e, h3, h4⟩ := h.2.2 a ea
  refine ⟨a, ea, by omega, ?_⟩
  have hg : (a.add i).block = g := by rw [addr_block, e]
  exact (World.cell?_of_block (by rw [hg]; exact hb g h3 (Array.getElem?_eq_some_iff.1 h4).1)).trans h2
end Go.Proofs.Ytmneajmedopheaa
namespace Go.Proofs.Ytmneajmedopheaa
open Go.RowKit Ex
set_option maxRecDepth 100000
/-- A list in blocks of the call's own. -/
structure SlR (W : World) (base : Nat) (x : SlT) (l : List Int) : Prop where
  N : Nums .i64 W W.heap.size x.A x.n l
  c : x.n ≤ x.c
  f : MineA W base x.A
/-- Objects in blocks of the call's own. -/
structure SlO (W : World) (base : Nat) (x : SlT) (l : List (Nat → Int)) : Prop where
  R : RdO W.heap.size W x.A l
  n : x.n = l.length
  c : x.n ≤ x.c
  m : x.c ≤ maxLen
  f : MineA W base x.A
section
variable {W W' : World} {base : Nat} {x : SlT}
theorem SlR.stay {l : List Int} (h : SlR W base x l) (hs : W.heap.size ≤ W'.heap.size) (hb : ∀ b, base ≤ b → W'.heap[b]? = W.heap[b]?) : SlR W' base x l := by
  refine ⟨⟨h.N.len, fun j u hu => ?_⟩, h.c, h.f.stay fun b h1 _ => hb b h1⟩
  obtain ⟨a, ea, h1, hcell⟩ := h.N.2 j u hu
  obtain ⟨g, o, cs, t, e, h3, h4⟩ := h.f a ea
  exact ⟨a, ea, by omega, (World.cell?_of_block (by rw [addr_block, e]; exact hb _ h3)).trans hcell⟩
theorem SlO.stay {l : List (Nat → Int)} (h : SlO W base x l) (hs : W.heap.size ≤ W'.heap.size) (hb : ∀ b, base ≤ b → W'.heap[b]? = W.heap[b]?) : SlO W' base x l := by
  refine ⟨fun j o ho => ?_, h.n, h.c, h.m, h.f.stay fun b h1 _ => hb b h1⟩
  obtain ⟨b, off, ea, h1, hra⟩ := h.R j o ho
  obtain ⟨g, o2, cs, t, e, h3, h4⟩ := h.f _ ea
  injection e with e1 e2
  subst e1
  exact ⟨b, off, ea, by omega, fun k u hu => (World.cell?_of_block (hb b h3)).trans (hra k u hu)⟩
theorem MineA.keep {w w' : World} {base : Nat} {A : Option Addr} (h : MineA w base A) (hb : Below w.heap.size w w') : MineA w' base A := h.stay fun b _ h2 => hb.block b h2
theorem SlR.keep {l : List Int} (h : SlR W base x l) (hb : Below W.heap.size W W') : SlR W' base x l := ⟨(h.N.below hb).more hb.size, h.c, h.f.keep hb⟩
theorem SlO.keep {l : List (Nat → Int)} (h : SlO W base x l) (hb : Below W.heap.size W W') : SlO W' base x l := ⟨(h.R.below hb).more hb.size, h.n, h.c, h.m, h.f.keep hb⟩
theorem SlR.set_ {l : List Int} (h : SlR W base x l) {g : Nat} (hg : g < base) (i : Nat) (v : Value) : SlR (W.setCell ⟨g, i, none⟩ v) base x l :=
  h.stay (by simp [World.setCell]) fun b hb => heap_setCell_other W ⟨g, i, none⟩ b v (by simp; omega)
theorem SlO.set_ {l : List (Nat → Int)} (h : SlO W base x l) {g : Nat} (hg : g < base) (i : Nat) (v : Value) : SlO (W.setCell ⟨g, i, none⟩ v) base x l :=
  h.stay (by simp [World.setCell]) fun b hb => heap_setCell_other W ⟨g, i, none⟩ b v (by simp; omega)
end
theorem Own.slR {w : World} {base n c : Nat} {A : Option Addr} {l : List Int} (h : Own .i64 3 w base A n c l) : SlR w base ⟨A, n, c⟩ l := ⟨h.nums, h.cap, (Mine.of_own h).A⟩
/-- All cells of objects. -/
def flatO (l : List (Nat → Int)) : List Value := l.flatMap fun o => (arr .i64 18 o).toList
theorem flatO_len (l : List (Nat → Int)) : (flatO l).length = l.length * 18 := by
  induction l with
  | nil => rfl
  | cons x l ih => simp only [flatO, List.flatMap_cons, List.length_append, Array.length_toList, arr_size, List.length_cons] at ih ⊢; omega
theorem flatO_at : ∀ {l : List (Nat → Int)} (i : Nat) (o : Nat → Int), l[i]? = some o → ∀ j v, (arr .i64 18 o).toList[j]? = some v → (flatO l)[i * 18 + j]? = some v
  | [], i, o, h, _, _, _ => by simp at h
  | x :: l, 0, o, h, j, v, hv => by
    simp at h; subst h
    simp only [flatO, List.flatMap_cons, Nat.zero_mul, Nat.zero_add]
    rw [List.getElem?_append_left (List.getElem?_eq_some_iff.1 hv).1]; exact hv
  | x :: l, i + 1, o, h, j, v, hv => by
    have ih := flatO_at (l := l) i o (by simpa using h) j v hv
    simp only [flatO, List.flatMap_cons] at ih ⊢
    rw [List.getElem?_append_right (by rw [Array.length_toList, arr_size]; omega), Array.length_toList, arr_size, show (i + 1) * 18 + j - 18 = i * 18 + j by omega]
    exact ih
theorem flatO_of {l : List (Nat → Int)} {j : Nat} {v : Value} (h : (flatO l)[j]? = some v) : ∃ o, l[j / 18]? = some o ∧ (arr .i64 18 o).toList[j % 18]? = some v := by
  have hj : j < l.length * 18 := by rw [← flatO_len]; exact (List.getElem?_eq_some_iff.1 h).1
  have hq : j / 18 < l.length := by omega
  refine ⟨l[j / 18], List.getElem?_eq_getElem hq, ?_⟩
  have hr : j % 18 < (arr .i64 18 l[j / 18]).toList.length := by rw [Array.length_toList, arr_size]; omega
  rw [List.getElem?_eq_getElem hr]
  have := flatO_at (j / 18) _ (List.getElem?_eq_getElem hq) (j % 18) _ (List.getElem?_eq_getElem hr)
  rw [show j / 18 * 18 + j % 18 = j by omega] at this
  exact this.symm.trans h
theorem flatO_one (l : List (Nat → Int)) : ∀ u ∈ flatO l, u.oneCell' = true := fun u hu => by
  obtain ⟨o, _, h⟩ := List.mem_flatMap.1 hu
  obtain ⟨i, hi, rfl⟩ := List.getElem_of_mem h
  have h1 := Array.all_eq_true'.1 (arr_one .i64 18 o) ((arr .i64 18 o).toList[i]) (by simp)
  exact h1
theorem info_obj : (Try.prog.info? 52).map (fun i => (i.zero, i.size, i.bytes)) = some (some (.agg (arr .i64 18 fun _ => 0)), 18, 144) := by kernel_rfl
theorem st_info_int : (Try.prog.info? 3).map (fun i => (i.zero, i.size, i.bytes)) = some (some (.int .i64 0), 1, 8) := by kernel_rfl
theorem slO_of_own {w : World} {base : Nat} {v : Value} {n : Nat} {l : List (Nat → Int)} (h : w.ownsRow base 52 18 v n (flatO l)) (hn : n = l.length) : ∃ A c, v = .slice A n c ∧ SlO w base ⟨A, n, c⟩ l := by
  have h' := h
  rcases h.2 with ⟨rfl, hz⟩ | ⟨g, cap, cur, rfl, hb, hg, hc, hm, _⟩
  · subst hz
    have hl : l = [] := List.length_eq_zero_iff.1 hn.symm
    subst hl
    exact ⟨none, 0, rfl, ⟨fun i o hi => by simp at hi, rfl, Nat.le_refl _, Nat.zero_le _, fun a ha => by cases ha⟩⟩
  · refine ⟨some ⟨g, 0, none⟩, cap, rfl, ⟨fun i o hi => ⟨g, 0, rfl, (Array.getElem?_eq_some_iff.1 hg).1, fun j u hu => ?_⟩, hn, hc, hm, ?_⟩⟩
    · have := h'.cells (g := g) rfl (i * 18 + j) u (flatO_at i o hi j u hu)
      rw [Addr.add_mid, ← Nat.add_assoc] at this
      exact this
    · exact fun a ha => ⟨g, 0, cur, _, (Option.some.inj ha).symm, hb, hg⟩
/-- append of any objects to none. -/
theorem wpList_appO {ops : Array Oper} {rest : List Oper} {o : Oper} {a : Act} {w : World} {Q : Exit → Act → World → Prop} (hgd : o.guard = none) (s x : Operand)
    (ho : o.op = .call { callee := .builtin .append, args := #[s, x], argTypes := #[22, 22] })
    (base : Nat) (A : Option Addr) (c : Nat) (hs : a.eval s = .slice A 0 c) (h : w.ownsRow base 52 18 (.slice A 0 c) 0 [])
    (B : Nat) (A2 : Option Addr) (m c2 : Nat) (l : List (Nat → Int)) (hx : a.eval x = .slice A2 m c2) (hr : RdO B w A2 l) (hl : m = l.length) (hn : m ≤ 1000000) (hbase : base ≤ w.heap.size)
    (hK : ∀ A' c' w', SlO w' base ⟨A', m, c'⟩ l → w.grownBy w' (Value.slice A 0 c).ownBlock → wpList Try.prog ops Q rest (a.put o.dst (.slice A' m c')) w') :
    wpList Try.prog ops Q (o :: rest) a w := by
  obtain ⟨i0, hi, hz0, hz1, hz2⟩ := info_parts info_obj
  rcases A2 with _ | ad
  · have hl0 : l = [] := by
      cases l with
      | nil => rfl
      | cons y r => obtain ⟨b, off, e, _⟩ := hr 0 y rfl; cases e
    subst hl0
    obtain rfl : m = 0 := hl
    have hrun : (Builtin.append_ #[22, 22] o.type #[.slice A 0 c, .slice none 0 c2]).run Try.prog w = .ok (.slice A 0 c) w := by
      rcases h.2 with ⟨hv, _⟩ | ⟨g, cap, cur, hv, _, _, hnc, _⟩
      · rw [hv]
        simp [Builtin.append_, run_underlying Try.underlying22, sizeOf, typeInfo, hi, Builtin.lenOf, Builtin.firstCells]
      · rw [hv]
        simp [Builtin.append_, run_underlying Try.underlying22, sizeOf, typeInfo, hi, Builtin.lenOf, Builtin.firstCells, hnc, storeCells]
    obtain ⟨A', c', e, hso⟩ := slO_of_own (l := []) h rfl
    injection e with e1 _ e3
    subst e1 e3
    refine wpList_plain hgd fun K hK' => ?_
    unfold Oper.wp execOp
    simp only [ho, resolve, invoke, builtin, Sem.run_bind, Sem.run_pure, Result.andThen_ok, List.map_toArray, List.map_cons, List.map_nil, hs, hx, hrun]
    exact hK' _ _ (hK A c w hso (World.grownBy.refl w _))
  · refine wpList_append_own_at w hgd s x 22 ho base 52 i0 _ 18 144 Try.underlying22 hi hz0 hz1 hz2 (show (arr .i64 18 fun _ => 0).size = 18 by rw [arr_size]) (by omega) _ 0 [] hs h ad m c2 (flatO l) hx (by rw [flatO_len, hl])
      (fun j u hj => ?_) (flatO_one l) (by unfold maxLen; omega) (by omega) hbase ?_
    · obtain ⟨o, h1, h2⟩ := flatO_of hj
      obtain ⟨b, off, ea, _, hra⟩ := hr _ _ h1
      injection ea with ea
      subst ea
      rw [Addr.add_mid, show off + j = off + j / 18 * 18 + j % 18 by omega]
      exact hra _ _ h2
    · intro v' w' hown hgr _ _
      rw [Nat.zero_add, List.nil_append] at hown
      obtain ⟨A', c', rfl, hso⟩ := slO_of_own hown hl
      exact hK A' c' w' hso hgr
theorem obj_nil (w : World) (base : Nat) : w.ownsRow base 52 18 (.slice none 0 0) 0 [] := World.ownsRow_nil w base _ 18
theorem obj_empty (w : World) (base : Nat) (hb : base ≤ w.heap.size) : (w.alloc (.cells #[] 52)).ownsRow base 52 18 (.slice (some ⟨w.heap.size, 0, none⟩) 0 0) 0 [] :=
  World.ownsRow_made w #[] 0 hb (by unfold maxLen; omega) (by simp)
/-- A list's place is written in a state's cells. -/
def updS (L : Nat → SlT) (z : Nat) (x : SlT) : Nat → SlT := fun i => if i = z then x else L i
theorem stC_set_objs (O x : SlT) (L : Nat → SlT) (p g : Nat → Int) : (stC O L p g).setIfInBounds 0 x.v = stC x L p g := by
  refine Array.ext (by simp [stC_size]) fun i h1 h2 => ?_
  rw [← Option.some_inj, ← Array.getElem?_eq_getElem, ← Array.getElem?_eq_getElem, Array.getElem?_setIfInBounds]
  have hi : i < 37 := by simpa [stC_size] using h2
  by_cases e : 0 = i
  · subst e; rw [if_pos rfl, stC_objs]; simp [stC_size]
  · rw [if_neg e]
    by_cases e2 : i < 12
    · obtain ⟨z, rfl⟩ : ∃ z, i = 1 + z := ⟨i - 1, by omega⟩
      rw [stC_list _ _ _ _ (by omega), stC_list _ _ _ _ (by omega)]
    · by_cases e3 : i < 30
      · obtain ⟨z, rfl⟩ : ∃ z, i = 12 + z := ⟨i - 12, by omega⟩
        rw [stC_pl _ _ _ _ (by omega), stC_pl _ _ _ _ (by omega)]
      · obtain ⟨z, rfl⟩ : ∃ z, i = 30 + z := ⟨i - 30, by omega⟩
        rw [stC_gm _ _ _ _ (by omega), stC_gm _ _ _ _ (by omega)]
theorem stC_set_list (O x : SlT) (L : Nat → SlT) (p g : Nat → Int) {z : Nat} (hz : z < 11) : (stC O L p g).setIfInBounds (1 + z) x.v = stC O (updS L z x) p g := by
  refine Array.ext (by simp [stC_size]) fun i h1 h2 => ?_
  rw [← Option.some_inj, ← Array.getElem?_eq_getElem, ← Array.getElem?_eq_getElem, Array.getElem?_setIfInBounds]
  have hi : i < 37 := by simpa [stC_size] using h2
  by_cases e : 1 + z = i
  · subst e; rw [if_pos rfl, stC_list _ _ _ _ hz]; simp [stC_size, updS]; omega
  · rw [if_neg e]
    by_cases e0 : i = 0
    · subst e0; rw [stC_objs, stC_objs]
    by_cases e2 : i < 12
    · obtain ⟨y, rfl⟩ : ∃ y, i = 1 + y := ⟨i - 1, by omega⟩
      rw [stC_list _ _ _ _ (by omega), stC_list _ _ _ _ (by omega), updS, if_neg (by omega)]
    · by_cases e3 : i < 30
      · obtain ⟨y, rfl⟩ : ∃ y, i = 12 + y := ⟨i - 12, by omega⟩
        rw [stC_pl _ _ _ _ (by omega), stC_pl _ _ _ _ (by omega)]
      · obtain ⟨y, rfl⟩ : ∃ y, i = 30 + y := ⟨i - 30, by omega⟩
        rw [stC_gm _ _ _ _ (by omega), stC_gm _ _ _ _ (by omega)]
theorem stC_set_pl (O : SlT) (L : Nat → SlT) (p g : Nat → Int) {j : Nat} (hj : j < 18) (x : Int) : (stC O L p g).setIfInBounds (12 + j) (.int .i64 x) = stC O L (updI p j x) g := by
  refine Array.ext (by simp [stC_size]) fun i h1 h2 => ?_
  rw [← Option.some_inj, ← Array.getElem?_eq_getElem, ← Array.getElem?_eq_getElem, Array.getElem?_setIfInBounds]
  have hi : i < 37 := by simpa [stC_size] using h2
  by_cases e : 12 + j = i
  · subst e; rw [if_pos rfl, stC_pl _ _ _ _ hj]; simp [stC_size, updI]; omega
  · rw [if_neg e]
    by_cases e0 : i = 0
    · subst e0; rw [stC_objs, stC_objs]
    by_cases e2 : i < 12
    · obtain ⟨y, rfl⟩ : ∃ y, i = 1 + y := ⟨i - 1, by omega⟩
      rw [stC_list _ _ _ _ (by omega), stC_list _ _ _ _ (by omega)]
    · by_cases e3 : i < 30
      · obtain ⟨y, rfl⟩ : ∃ y, i = 12 + y := ⟨i - 12, by omega⟩
        rw [stC_pl _ _ _ _ (by omega), stC_pl _ _ _ _ (by omega), updI, if_neg (by omega)]
      · obtain ⟨y, rfl⟩ : ∃ y, i = 30 + y := ⟨i - 30, by omega⟩
        rw [stC_gm _ _ _ _ (by omega), stC_gm _ _ _ _ (by omega)]
theorem stC_set_gm (O : SlT) (L : Nat → SlT) (p g : Nat → Int) {j : Nat} (hj : j < 7) (x : Int) : (stC O L p g).setIfInBounds (30 + j) (.int .i64 x) = stC O L p (updI g j x) := by
  refine Array.ext (by simp [stC_size]) fun i h1 h2 => ?_
  rw [← Option.some_inj, ← Array.getElem?_eq_getElem, ← Array.getElem?_eq_getElem, Array.getElem?_setIfInBounds]
  have hi : i < 37 := by simpa [stC_size] using h2
  by_cases e : 30 + j = i
  · subst e; rw [if_pos rfl, stC_gm _ _ _ _ hj]; simp [stC_size, updI]; omega
  · rw [if_neg e]
    by_cases e0 : i = 0
    · subst e0; rw [stC_objs, stC_objs]
    by_cases e2 : i < 12
    · obtain ⟨y, rfl⟩ : ∃ y, i = 1 + y := ⟨i - 1, by omega⟩
      rw [stC_list _ _ _ _ (by omega), stC_list _ _ _ _ (by omega)]
    · by_cases e3 : i < 30
      · obtain ⟨y, rfl⟩ : ∃ y, i = 12 + y := ⟨i - 12, by omega⟩
        rw [stC_pl _ _ _ _ (by omega), stC_pl _ _ _ _ (by omega)]
      · obtain ⟨y, rfl⟩ : ∃ y, i = 30 + y := ⟨i - 30, by omega⟩
        rw [stC_gm _ _ _ _ (by omega), stC_gm _ _ _ _ (by omega), updI, if_neg (by omega)]
theorem stC_congr (O : SlT) (L : Nat → SlT) {p p' q q' : Nat → Int} (h : ∀ i, i < 18 → p i = p' i) (h' : ∀ i, i < 7 → q i = q' i) : stC O L p q = stC O L p' q' := by
  unfold stC; rw [arr_congr h, arr_congr h']
/-- A box in the making: the first k lists are copied. -/
structure CpS (w : World) (g base : Nat) (s : StT) (L0 : Nat → SlT) (O : SlT) (L : Nat → SlT) (k : Nat) (W : World) : Prop where
  b : Below w.heap.size w W
  r : ∀ z, k ≤ z → L z = L0 z
  a : StAt W g (stC O L s.pl s.gm)
  o : SlO W base O s.objs
  l : ∀ z, z < k → SlR W base (L z) (s.lists z)
section
variable {w : World} {g base : Nat} {s : StT} {O : SlT} {L0 L : Nat → SlT} {k : Nat} {W W' : World}
theorem CpS.keep (h : CpS w g base s L0 O L k W) (hb : Below W.heap.size W W') : CpS w g base s L0 O L k W' := ⟨keepB hb h.b, h.r, h.a.keep hb, h.o.keep hb, fun z hz => (h.l z hz).keep hb⟩
theorem CpS.next (h : CpS w g base s L0 O L k W) (hk : k < 11) (hwg : w.heap.size ≤ g) (hg : g < base) {x : SlT} (hx : SlR W base x (s.lists k)) : CpS w g base s L0 O (updS L k x) (k + 1) (W.setCell ⟨g, 1 + k, none⟩ x.v) := by
  refine ⟨h.b.setCell (by simpa using hwg) _, fun z hz => (if_neg (by omega)).trans (h.r z (by omega)), ?_, h.o.set_ hg _ _, fun z hz => ?_⟩
  · unfold StAt
    rw [heap_setCell_same W g (1 + k) _ _ _ h.a, stC_set_list _ _ _ _ _ hk]
  · by_cases e : z = k
    · subst e; simp only [updS, if_pos]; exact hx.set_ hg _ _
    · simp only [updS, if_neg e]; exact (h.l z (by omega)).set_ hg _ _
theorem CpS.start {O1 : SlT} (hb : Below w.heap.size w W) (ha : StAt W g (stC O1 L0 s.pl s.gm)) (hwg : w.heap.size ≤ g) (hg : g < base) (ho : SlO W base O s.objs) : CpS w g base s L0 O L0 0 (W.setCell ⟨g, 0, none⟩ O.v) := by
  refine ⟨hb.setCell (by simpa using hwg) _, fun _ _ => rfl, ?_, ho.set_ hg _ _, fun z hz => absurd hz (by omega)⟩
  unfold StAt
  rw [heap_setCell_same W g 0 _ _ _ ha, stC_set_objs]
end
/-- What a copy answers: the same state, in blocks of its own. -/
def CopyR (w : World) (s : StT) (cs : Array Value) (W : World) : Prop := ∃ O L, ReadsS W.heap.size W cs s O L ∧ MineA W w.heap.size O.A ∧ (∀ z < 11, MineA W w.heap.size (L z).A) ∧ Below w.heap.size w W
theorem CpS.copy {w : World} {g base : Nat} {s : StT} {O : SlT} {L0 L : Nat → SlT} {W : World} (h : CpS w g base s L0 O L 11 W) (hR : ∀ o ∈ s.objs, ∀ i < 18, N64 (o i)) (hl : ∀ z < 11, ∀ x ∈ s.lists z, N64 x) (hp : ∀ i < 18, N64 (s.pl i)) (hgm : ∀ i < 7, N64 (s.gm i))
    {r : Nat} (hr : w.heap.size ≤ r) (hrg : r < base) : CopyR w s (stC O L s.pl s.gm) (W.setRow r (stC O L s.pl s.gm)) := by
  have hb : ∀ b, base ≤ b → (W.setRow r (stC O L s.pl s.gm)).heap[b]? = W.heap[b]? := fun b hb => setRow_other W r b _ (by omega)
  have hs : W.heap.size ≤ (W.setRow r (stC O L s.pl s.gm)).heap.size := by simp
  have ho := h.o.stay hs hb
  have hls := fun z hz => (h.l z hz).stay hs hb
  exact ⟨O, L, ⟨rfl, ho.n, ho.c, ho.m, ho.R, fun z hz => (hls z hz).N, fun z hz => (hls z hz).c, hR, hl, hp, hgm⟩, ho.f.base_le (by omega), fun z hz => (hls z hz).f.base_le (by omega), below_setRow h.b r _ hr⟩
end Go.Proofs.Ytmneajmedopheaa
namespace Go.Proofs.Ytmneajmedopheaa
open Go.RowKit Ex
set_option maxRecDepth 100000
/-- A state's slices are the call's own. -/
structure OwnS (W : World) (base : Nat) (s : StT) (O : SlT) (L : Nat → SlT) : Prop where
  on : O.n = s.objs.length
  o : W.ownsRow base 52 18 O.v O.n (flatO s.objs)
  l : ∀ z < 11, Own .i64 3 W base (L z).A (L z).n (L z).c (s.lists z)
  d : ∀ y < 11, ∀ z < 11, y ≠ z → ∀ j, (L y).v.ownBlock = some j → (L z).v.ownBlock ≠ some j
section
variable {W W' : World} {base : Nat} {s : StT} {O : SlT} {L : Nat → SlT}
theorem OwnS.keep (h : OwnS W base s O L) (hb : ∀ j, base ≤ j → j < W.heap.size → W'.heap[j]? = W.heap[j]?) : OwnS W' base s O L :=
  ⟨h.on, owns_keep h.o fun j hj => hb j (h.o.lt j hj).1 (h.o.lt j hj).2, fun z hz => ⟨(h.l z hz).1, owns_keep (h.l z hz).2 fun j hj => hb j ((h.l z hz).2.lt j hj).1 ((h.l z hz).2.lt j hj).2⟩, h.d⟩
theorem OwnS.below (h : OwnS W base s O L) (hb : Below W.heap.size W W') : OwnS W' base s O L := h.keep fun j _ hj => hb.block j hj
theorem OwnS.reads (h : OwnS W base s O L) (ho : ∀ o ∈ s.objs, ∀ i < 18, N64 (o i)) (hl : ∀ z < 11, ∀ n ∈ s.lists z, N64 n) (hp : ∀ i < 18, N64 (s.pl i)) (hg : ∀ i < 7, N64 (s.gm i)) : ReadsS W.heap.size W (stC O L s.pl s.gm) s O L := by
  obtain ⟨A, c, e, hs⟩ := slO_of_own h.o h.on
  obtain ⟨A', n', c'⟩ := O
  injection e with e1 _ e3
  subst e1 e3
  exact ⟨rfl, h.on, hs.c, hs.m, hs.R, fun z hz => (h.l z hz).nums, fun z hz => (h.l z hz).cap, ho, hl, hp, hg⟩
theorem OwnS.low (h : OwnS W base s O L) {b : Nat} (hb : b ≤ base) : OwnS W b s O L := by
  refine ⟨h.on, ⟨h.o.1, ?_⟩, fun z hz => (h.l z hz).base_le hb, h.d⟩
  rcases h.o.2 with hv | ⟨g, cap, cur, hv, hbs, rest⟩
  · exact .inl hv
  · exact .inr ⟨g, cap, cur, hv, Nat.le_trans hb hbs, rest⟩
end
/-- What a copy answers: the same state, in blocks of its own. -/
def CopyO (w : World) (s : StT) (cs : Array Value) (W : World) : Prop := ∃ O L, cs = stC O L s.pl s.gm ∧ OwnS W w.heap.size s O L ∧ Below w.heap.size w W
/-- A box in the making: the first k lists are copied. -/
structure CpO (w : World) (g base : Nat) (s : StT) (L0 : Nat → SlT) (O : SlT) (L : Nat → SlT) (k : Nat) (W : World) : Prop where
  b : Below w.heap.size w W
  r : ∀ z, k ≤ z → L z = L0 z
  a : StAt W g (stC O L s.pl s.gm)
  on : O.n = s.objs.length
  o : W.ownsRow base 52 18 O.v O.n (flatO s.objs)
  l : ∀ z, z < k → Own .i64 3 W base (L z).A (L z).n (L z).c (s.lists z)
  d : ∀ y, y < k → ∀ z, z < k → y ≠ z → ∀ j, (L y).v.ownBlock = some j → (L z).v.ownBlock ≠ some j
section
variable {w : World} {g base : Nat} {s : StT} {O : SlT} {L0 L : Nat → SlT} {k : Nat} {W W' : World}
theorem CpO.keep (h : CpO w g base s L0 O L k W) (hb : Below W.heap.size W W') : CpO w g base s L0 O L k W' :=
  ⟨keepB hb h.b, h.r, h.a.keep hb, h.on, owns_keep h.o fun j hj => hb.block j (h.o.lt j hj).2, fun z hz => (h.l z hz).below hb (Nat.le_refl _), h.d⟩
theorem CpO.next (h : CpO w g base s L0 O L k W) (hk : k < 11) (hwg : w.heap.size ≤ g) (hg : g < base) {x : SlT} (hx : Own .i64 3 W base x.A x.n x.c (s.lists k)) (hd : ∀ y, y < k → ∀ j, (L y).v.ownBlock = some j → x.v.ownBlock ≠ some j) :
    CpO w g base s L0 O (updS L k x) (k + 1) (W.setCell ⟨g, 1 + k, none⟩ x.v) := by
  have hb : ∀ j, base ≤ j → (W.setCell ⟨g, 1 + k, none⟩ x.v).heap[j]? = W.heap[j]? := fun j hj => heap_setCell_other W ⟨g, 1 + k, none⟩ j _ (by simp; omega)
  have hown : ∀ {A n c l}, Own .i64 3 W base A n c l → Own .i64 3 (W.setCell ⟨g, 1 + k, none⟩ x.v) base A n c l := fun h => ⟨h.1, owns_keep h.2 fun j hj => hb j (h.2.lt j hj).1⟩
  refine ⟨h.b.setCell (by simpa using hwg) _, fun z hz => (if_neg (by omega)).trans (h.r z (by omega)), ?_, h.on, owns_keep h.o fun j hj => hb j (h.o.lt j hj).1, fun z hz => ?_, fun y hy z hz hne j hj => ?_⟩
  · unfold StAt
    rw [heap_setCell_same W g (1 + k) _ _ _ h.a, stC_set_list _ _ _ _ _ hk]
  · by_cases e : z = k
    · subst e; simp only [updS, if_pos]; exact hown hx
    · simp only [updS, if_neg e]; exact hown (h.l z (by omega))
  · by_cases ey : y = k
    · subst ey
      simp only [updS, if_pos] at hj
      have hzy : ¬ z = y := fun e => hne e.symm
      simp only [updS, if_neg hzy]
      intro h2
      exact hd z (by omega) j h2 hj
    · simp only [updS, if_neg ey] at hj
      by_cases ez : z = k
      · subst ez
        simp only [updS, if_pos]
        exact hd y (by omega) j hj
      · simp only [updS, if_neg ez]
        exact h.d y (by omega) z (by omega) hne j hj
theorem CpO.start {O1 : SlT} (hb : Below w.heap.size w W) (ha : StAt W g (stC O1 L0 s.pl s.gm)) (hwg : w.heap.size ≤ g) (hg : g < base) (hn : O.n = s.objs.length) (ho : W.ownsRow base 52 18 O.v O.n (flatO s.objs)) : CpO w g base s L0 O L0 0 (W.setCell ⟨g, 0, none⟩ O.v) := by
  refine ⟨hb.setCell (by simpa using hwg) _, fun _ _ => rfl, ?_, hn, owns_keep ho fun j hj => heap_setCell_other W ⟨g, 0, none⟩ j _ (by have := (ho.lt j hj).1; simp; omega), fun z hz => absurd hz (by omega), fun y hy => absurd hy (by omega)⟩
  unfold StAt
  rw [heap_setCell_same W g 0 _ _ _ ha, stC_set_objs]
theorem CpO.copy (h : CpO w g base s L0 O L 11 W) {r : Nat} (hr : w.heap.size ≤ r) (hrg : r < base) : CopyO w s (stC O L s.pl s.gm) (W.setRow r (stC O L s.pl s.gm)) := by
  have hb : ∀ b, base ≤ b → (W.setRow r (stC O L s.pl s.gm)).heap[b]? = W.heap[b]? := fun b hb => setRow_other W r b _ (by omega)
  have ho : OwnS W base s O L := ⟨h.on, h.o, fun z hz => h.l z hz, fun y hy z hz => h.d y hy z hz⟩
  exact ⟨O, L, rfl, (ho.keep fun j hj _ => hb j hj).low (by omega), below_setRow h.b r _ hr⟩
end
/-- append of any objects to none: with the row that is the call's own. -/
theorem wpList_appOw {ops : Array Oper} {rest : List Oper} {o : Oper} {a : Act} {w : World} {Q : Exit → Act → World → Prop} (hgd : o.guard = none) (s x : Operand)
    (ho : o.op = .call { callee := .builtin .append, args := #[s, x], argTypes := #[22, 22] })
    (base : Nat) (A : Option Addr) (c : Nat) (hs : a.eval s = .slice A 0 c) (h : w.ownsRow base 52 18 (.slice A 0 c) 0 [])
    (B : Nat) (A2 : Option Addr) (m c2 : Nat) (l : List (Nat → Int)) (hx : a.eval x = .slice A2 m c2) (hr : RdO B w A2 l) (hl : m = l.length) (hn : m ≤ 1000000) (hbase : base ≤ w.heap.size)
    (hK : ∀ A' c' w', w'.ownsRow base 52 18 (.slice A' m c') m (flatO l) → w.grownBy w' (Value.slice A 0 c).ownBlock → wpList Try.prog ops Q rest (a.put o.dst (.slice A' m c')) w') :
    wpList Try.prog ops Q (o :: rest) a w := by
  obtain ⟨i0, hi, hz0, hz1, hz2⟩ := info_parts info_obj
  rcases A2 with _ | ad
  · have hl0 : l = [] := by
      cases l with
      | nil => rfl
      | cons y r => obtain ⟨b, off, e, _⟩ := hr 0 y rfl; cases e
    subst hl0
    obtain rfl : m = 0 := hl
    have hrun : (Builtin.append_ #[22, 22] o.type #[.slice A 0 c, .slice none 0 c2]).run Try.prog w = .ok (.slice A 0 c) w := by
      rcases h.2 with ⟨hv, _⟩ | ⟨g, cap, cur, hv, _, _, hnc, _⟩
      · rw [hv]
        simp [Builtin.append_, run_underlying Try.underlying22, sizeOf, typeInfo, hi, Builtin.lenOf, Builtin.firstCells]
      · rw [hv]
        simp [Builtin.append_, run_underlying Try.underlying22, sizeOf, typeInfo, hi, Builtin.lenOf, Builtin.firstCells, hnc, storeCells]
    refine wpList_plain hgd fun K hK' => ?_
    unfold Oper.wp execOp
    simp only [ho, resolve, invoke, builtin, Sem.run_bind, Sem.run_pure, Result.andThen_ok, List.map_toArray, List.map_cons, List.map_nil, hs, hx, hrun]
    exact hK' _ _ (hK A c w h (World.grownBy.refl w _))
  · refine wpList_append_own_at w hgd s x 22 ho base 52 i0 _ 18 144 Try.underlying22 hi hz0 hz1 hz2 (show (arr .i64 18 fun _ => 0).size = 18 by rw [arr_size]) (by omega) _ 0 [] hs h ad m c2 (flatO l) hx (by rw [flatO_len, hl])
      (fun j u hj => ?_) (flatO_one l) (by unfold maxLen; omega) (by omega) hbase ?_
    · obtain ⟨o, h1, h2⟩ := flatO_of hj
      obtain ⟨b, off, ea, _, hra⟩ := hr _ _ h1
      injection ea with ea
      subst ea
      rw [Addr.add_mid, show off + j = off + j / 18 * 18 + j % 18 by omega]
      exact hra _ _ h2
    · intro v' w' hown hgr _ _
      rw [Nat.zero_add, List.nil_append] at hown
      have hform : ∃ A' c', v' = .slice A' m c' := by
        rcases hown.2 with ⟨rfl, hz⟩ | ⟨g', cap, _, rfl, _⟩
        · exact ⟨none, 0, by rw [hz]⟩
        · exact ⟨_, _, rfl⟩
      obtain ⟨A', c', rfl⟩ := hform
      exact hK A' c' w' hown hgr
end Go.Proofs.Ytmneajmedopheaa
namespace Go.Proofs.Ytmneajmedopheaa
open Go.RowKit Ex
attribute [local go_sem] arr_get
set_option maxRecDepth 100000
set_option maxHeartbeats 0 in
theorem numCopy_own (s : StT) (O : SlT) (L : Nat → SlT) (cs : Array Value) (w : World) (h : ReadsS w.heap.size w cs s O L) (hn : s.objs.length ≤ 1000000) (hll : ∀ z < 11, (s.lists z).length ≤ 1000000) :
    Calls Try.prog 18 #[.agg cs] w fun e w' => ∃ cs', e = .returned (.agg cs') ∧ CopyO w s cs' w' := by
  go_enter Try.func18, Try.ntmps18
  have hcs := h.cs
  have c0 : cs[0]? = some (.slice O.A O.n O.c) := by rw [hcs]; exact stC_objs _ _ _ _
  have hOn := h.on
  have hO := h.o
  have H := Lib.hid h
  clear h
  obtain ⟨A, n, c⟩ := O
  simp only at c0 hOn hO
  have HC := Lib.hid hcs
  clear hcs
  subst hOn
  go_upto_region 1 with fail
  have hb1 : Below (w.alloc (.cells cs 29)).heap.size (w.alloc (.cells cs 29)) ((w.alloc (.cells cs 29)).alloc (.cells st0 29)) := (Below.refl _ _).alloc (Nat.le_refl _) _
  have hb2 : Below w.heap.size w ((w.alloc (.cells cs 29)).alloc (.cells st0 29)) := keepB hb1 ((Below.refl _ _).alloc (Nat.le_refl _) _)
  have hs1 : StAt ((w.alloc (.cells cs 29)).alloc (.cells st0 29)) w.heap.size cs := (StAt.new w cs).keep hb1
  have hr1 : StAt ((w.alloc (.cells cs 29)).alloc (.cells st0 29)) (w.heap.size + 1) st0 := by
    have h := StAt.new (w.alloc (.cells cs 29)) st0
    simpa using h
  have hz2 : ((w.alloc (.cells cs 29)).alloc (.cells st0 29)).heap.size = w.heap.size + 2 := by simp
  obtain ⟨r, hr⟩ : ∃ r, r = w.heap.size + 1 := ⟨_, rfl⟩
  obtain ⟨w2, hw2⟩ : ∃ w2, w2 = (w.alloc (.cells cs 29)).alloc (.cells st0 29) := ⟨_, rfl⟩
  rw [st0_is]
  rw [← hw2, ← hr] at hr1
  rw [← hw2] at hs1 hb2 hz2
  rw [← hw2, ← hr]
  have hrl : r < w2.heap.size := hr1.lt
  have hrw : w.heap.size < r := by omega
  clear hb1 hw2 hr
  obtain ⟨g, hg⟩ : ∃ g, g = w.heap.size := ⟨_, rfl⟩
  have hwg : w.heap.size ≤ g := by omega
  have hgr : g < r := by omega
  have HZ3 := Lib.hid (show w2.heap.size = r + 1 by omega)
  rw [← hg] at hs1
  rw [← hg]
  clear hg hz2
  have hgl : g < w2.heap.size := by omega
  have c3 := (hs1.cell 0).trans c0
  have hba : Below w2.heap.size w2 (w2.alloc (.cells #[] 52)) := (Below.refl _ _).alloc (Nat.le_refl _) _
  have hO3 := (hO.below hb2).below (hba.mono (by omega))
  have how := obj_empty w2 w2.heap.size (Nat.le_refl _)
  have hsb : w2.heap.size ≤ (w2.alloc (.cells #[] 52)).heap.size := hba.size
  go_upto_region 2 with (at_builtin; refine wpList_appOw rfl _ _ rfl w2.heap.size _ 0 rfl how _ A s.objs.length c s.objs rfl hO3 rfl hn hsb ?_; intro A4 c4 w4 ho4 hg4; have hb4 : Below w2.heap.size w2 w4 := hba.grown hg4 hsb (fun g hh => Nat.le_of_eq (Option.some.inj hh)); have hf4 := frozen_of_row w4 g 0 _ _ (hs1.keep hb4); have hc4 := ((hs1.keep hb4).cell 0).trans c0)
  have HCp := Lib.hid (show CpO w g (r + 1) s L ⟨A4, s.objs.length, c4⟩ L 0 (w4.setCell ⟨g, 0, none⟩ (.slice A4 s.objs.length c4)) from by
    have ha := hs1.keep hb4
    rw [HC.out] at ha
    rw [HZ3.out] at ho4
    exact CpO.start (keepB hb4 hb2) ha hwg (by omega) rfl ho4)
  have HR := Lib.hid (show StAt (w4.setCell ⟨g, 0, none⟩ (.slice A4 s.objs.length c4)) r st0 from (heap_setCell_other w4 ⟨g, 0, none⟩ r _ (by simp; omega)).trans (hr1.keep hb4))
  obtain ⟨w5, hw5⟩ : ∃ w5, w5 = w4.setCell ⟨g, 0, none⟩ (.slice A4 s.objs.length c4) := ⟨_, rfl⟩
  obtain ⟨O4, hO4⟩ : ∃ O4 : SlT, O4 = ⟨A4, s.objs.length, c4⟩ := ⟨_, rfl⟩
  rw [← hw5, ← hO4] at HCp
  rw [← hw5] at HR
  rw [← hw5]
  clear hw5 hO4 hf4 hc4 hb4 hg4 ho4 w4 hba hO3 how hsb c3 hs1 hr1 hb2 hrl hgl HZ3
  go_upto_region 3 with fail
  go_loopw [9] (fun i wr => ∃ (z : Nat) (L4 : Nat → SlT), i = .int .i64 ((z : Nat) : Int) ∧ z ≤ 11 ∧ Hid (CpO w g (r + 1) s L O4 L4 z wr) ∧ Hid (StAt wr r st0)) (fun i _ => 11 - (intOf i).toNat)
  case atStart => exact ⟨0, L, rfl, by omega, HCp, HR⟩
  case round =>
    clear HCp HR
    obtain ⟨z, L4, rfl, hz, HP, HR⟩ := hrel
    by_cases hlt : z < 11
    · have hd : decide ((z : Int) < 11) = true := by simp; omega
      obtain ⟨A2, n2, c2, hls, hN0⟩ : ∃ A2 n2 c2, L z = ⟨A2, n2, c2⟩ ∧ Nums .i64 w w.heap.size A2 n2 (s.lists z) := ⟨_, _, _, rfl, H.out.l z hlt⟩
      have hN := hN0.below HP.out.b
      have hln := hN0.len
      have hnm : n2 ≤ 1000000 := hln ▸ hll z hlt
      have p0 : (0 : Int) ≤ (z : Int) := by omega
      have p1 : (z : Int) < 11 := by omega
      have hg0 := HP.out.a
      have hcz := (hg0.cell (1 + z)).trans (stC_list _ _ _ _ hlt)
      rw [HP.out.r z (Nat.le_refl _), hls] at hcz
      have hcz : wr.cell? ⟨g, 1 + z, none⟩ = some (.slice A2 n2 c2) := hcz
      clear hls
      have hba : Below wr.heap.size wr (wr.alloc (.cells #[] 3)) := (Below.refl _ _).alloc (Nat.le_refl _) _
      have how : Own .i64 3 (wr.alloc (.cells #[] 3)) wr.heap.size (some ⟨wr.heap.size, 0, none⟩) 0 0 [] := own_empty wr wr.heap.size (Nat.le_refl _)
      have hbs : wr.heap.size ≤ (wr.alloc (.cells #[] 3)).heap.size := hba.size
      have hrr := HR.out.lt
      have hgl : g < wr.heap.size := by omega
      have hN2 := hN.below (hba.mono (by omega))
      obtain ⟨i0, hi, hz0, hz1, hz2⟩ := info_parts st_info_int
      clear hN0 hN hrr
      go_wp2_with (at_builtin; refine wpList_app rfl _ _ _ rfl .i64 wr.heap.size 3 i0 _ 8 Try.underlying23 hi hz0 hz1 hz2 rfl _ 0 0 [] rfl how w.heap.size A2 n2 c2 (s.lists z) rfl hN2 (by omega) (by omega) hbs ?_; intro A5 c5 w5 ho5 hg5; have hb5 : Below wr.heap.size wr w5 := how.belowGrown hba hbs hg5; have hf5 := frozen_of_row w5 g (1 + z) _ _ (hg0.keep hb5); have hc5 := ((hg0.keep hb5).cell (1 + z)).trans (stC_list _ _ _ _ hlt); rw [Nat.zero_add, List.nil_append] at ho5)
      have HP2 := Lib.hid (show CpO w g (r + 1) s L O4 (updS L4 z ⟨A5, n2, c5⟩) (z + 1) (w5.setCell ⟨g, 1 + z, none⟩ (.slice A5 n2 c5)) from (HP.out.keep hb5).next hlt hwg (by omega) (ho5.base_le (show r + 1 ≤ wr.heap.size by have := HR.out.lt; omega)) (fun y hy j hj h2 => by
        have h3 := (ho5.2.lt j h2).1
        have h4 := ((HP.out.l y hy).2.lt j hj).2
        omega))
      have HR2 := Lib.hid (show StAt (w5.setCell ⟨g, 1 + z, none⟩ (.slice A5 n2 c5)) r st0 from (heap_setCell_other w5 ⟨g, 1 + z, none⟩ r _ (by simp; omega)).trans (HR.out.keep hb5))
      clear hf5 hc5 hb5 hg5 ho5 hi hz0 hz1 hz2 how hba hbs hN2
      go_roundw
      case rel => exact ⟨z + 1, _, by go_num, by omega, HP2, HR2⟩
      case measure => simp [intOf]; omega
    · obtain rfl : z = 11 := by omega
      have hg9 := HP.out.a
      have hr9 := HR.out
      have HZ := Lib.hid (HP.out.copy (show w.heap.size ≤ r by omega) (by omega))
      obtain ⟨cs9, hcs9⟩ : ∃ cs9, cs9 = stC O4 L4 s.pl s.gm := ⟨_, rfl⟩
      have hsz9 : (Try.prog.info? 29).map (·.size) = some cs9.size := by rw [hcs9, stC_size]; exact size37
      have hs9 : st0.size = cs9.size := by rw [hcs9, stC_size, show st0.size = 37 from stC_size _ _ _ _]
      have hone9 : cs9.all (·.oneCell') = true := by rw [hcs9]; exact stC_one _ _ _ _
      rw [← hcs9] at HZ hg9
      clear hcs9 HP HR
      go_wp2_with (first
        | (refine wpList_load_row rfl 29 (.tmp 1) rfl g rfl 29 _ (0, 0) _ hg9 Try.underlying29 rfl hsz9 ?_)
        | (refine wpList_store_row rfl 29 (.tmp 2) (.tmp 22) rfl r _ rfl rfl 29 st0 hr9 hsz9 hs9 hone9 ?_))
      refine bodyPost_ret (v := .agg cs9) ?_ rfl ⟨cs9, rfl, HZ.out⟩
      exact results_cell_row (ty := 29) (p := 2) (by kernel_rfl) _ _ r 29 _ (0, 0) _ rfl (setRow_heap _ _ _ _ _ _ hr9) Try.underlying29 rfl hsz9
end Go.Proofs.Ytmneajmedopheaa
namespace Go.Proofs.Ytmneajmedopheaa
open Go.RowKit Ex
set_option maxRecDepth 100000
set_option linter.unusedSimpArgs false in
set_option maxHeartbeats 0 in
theorem evCheckRef_any (e : EvT) (w : World) : Calls Try.prog 32 #[evV e] w fun en w' => en = .returned (.int .i64 (chkE e)) ∧ Below w.heap.size w w' := by
  obtain ⟨k, a, b, c, d, f⟩ := e
  unfold evV
  simp only
  go_enter Try.func32, Try.ntmps32
  go_upto_region 1 with fail
  obtain ⟨w1, hw1⟩ : ∃ w1, w1 = w.alloc (.cells #[.int .i64 k, .int .i64 a, .int .i64 b, .int .i64 c, .int .i64 d, .int .i64 f] 45) := ⟨_, rfl⟩
  have hrow : w1.heap[w.heap.size]? = some (.cells #[.int .i64 k, .int .i64 a, .int .i64 b, .int .i64 c, .int .i64 d, .int .i64 f] 45 (0, 0)) := by rw [hw1]; exact heap_alloc_new _ _
  have hb1 : Below w.heap.size w w1 := by rw [hw1]; exact (Below.refl _ _).alloc (Nat.le_refl _) _
  rw [← hw1]
  have c0 := cell_of_row w1 w.heap.size 0 _ _ _ hrow
  have c1 := cell_of_row w1 w.heap.size 1 _ _ _ hrow
  have c2 := cell_of_row w1 w.heap.size 2 _ _ _ hrow
  have c3 := cell_of_row w1 w.heap.size 3 _ _ _ hrow
  have c4 := cell_of_row w1 w.heap.size 4 _ _ _ hrow
  have c5 := cell_of_row w1 w.heap.size 5 _ _ _ hrow
  simp at c0 c1 c2 c3 c4 c5
  clear hw1 hrow
  by_cases hk : k = 0
  · subst hk
    go_wp2_with fail
    all_goals go_ret
    all_goals refine ⟨?_, hb1⟩
    all_goals show Ending.returned (.int .i64 _) = Ending.returned (.int .i64 (chkE _))
    all_goals congr 2
    all_goals symm
    all_goals rw [ck0]
    all_goals (repeat' split) <;> omega
  by_cases hk5 : k = 5
  · subst hk5
    go_wp2_with fail
    all_goals go_ret
    all_goals refine ⟨?_, hb1⟩
    all_goals show Ending.returned (.int .i64 _) = Ending.returned (.int .i64 (chkE _))
    all_goals congr 2
    all_goals symm
    all_goals rw [ck5]
    all_goals (repeat' split) <;> omega
  by_cases hk1 : k = 1
  · subst hk1
    go_wp2_with fail
    all_goals go_ret
    all_goals refine ⟨?_, hb1⟩
    all_goals show Ending.returned (.int .i64 _) = Ending.returned (.int .i64 (chkE _))
    all_goals congr 2
    all_goals symm
    all_goals rw [ck1]
    all_goals (repeat' split) <;> omega
  by_cases hk2 : k = 2
  · subst hk2
    by_cases h3 : b = 3
    · subst h3
      go_wp2_with fail
      all_goals go_ret
      all_goals refine ⟨?_, hb1⟩
      all_goals show Ending.returned (.int .i64 _) = Ending.returned (.int .i64 (chkE _))
      all_goals congr 2
      all_goals symm
      all_goals rw [ck2]
      all_goals (repeat' split) <;> omega
    · have hd3 : (b != 3) = true := bne_iff_ne.2 h3
      go_wp2_with fail
      all_goals go_ret
      all_goals refine ⟨?_, hb1⟩
      all_goals show Ending.returned (.int .i64 _) = Ending.returned (.int .i64 (chkE _))
      all_goals congr 2
      all_goals symm
      all_goals rw [ck2]
      all_goals (repeat' split) <;> omega
  by_cases hk3 : k = 3
  · subst hk3
    go_wp2_with fail
    all_goals go_ret
    all_goals refine ⟨?_, hb1⟩
    all_goals show Ending.returned (.int .i64 _) = Ending.returned (.int .i64 (chkE _))
    all_goals congr 2
    all_goals symm
    all_goals rw [ck3]
    all_goals (repeat' split) <;> omega
  by_cases hk4 : k = 4
  · subst hk4
    by_cases ha : a = 0
    · subst ha
      go_wp2_with fail
      all_goals go_ret
      all_goals refine ⟨?_, hb1⟩
      all_goals show Ending.returned (.int .i64 _) = Ending.returned (.int .i64 (chkE _))
      all_goals congr 2
      all_goals symm
      all_goals rw [ck4]
      all_goals (repeat' split) <;> omega
    · have hda : (a != 0) = true := bne_iff_ne.2 ha
      go_wp2_with fail
      all_goals go_ret
      all_goals refine ⟨?_, hb1⟩
      all_goals show Ending.returned (.int .i64 _) = Ending.returned (.int .i64 (chkE _))
      all_goals congr 2
      all_goals symm
      all_goals rw [ck4]
      all_goals (repeat' split) <;> omega
  by_cases hn : k < 0
  · have hd : decide (k < 0) = true := decide_eq_true hn
    go_wp2_with fail
    all_goals go_ret
    all_goals refine ⟨?_, hb1⟩
    all_goals show Ending.returned (.int .i64 _) = Ending.returned (.int .i64 (chkE _))
    all_goals congr 2
    all_goals symm
    all_goals rw [ckN k a b c d f (by omega)]
    all_goals (repeat' split) <;> omega
  · have hd : decide (k < 0) = false := decide_eq_false hn
    have hd5 : decide (5 < k) = true := decide_eq_true (by omega)
    go_wp2_with fail
    all_goals go_ret
    all_goals refine ⟨?_, hb1⟩
    all_goals show Ending.returned (.int .i64 _) = Ending.returned (.int .i64 (chkE _))
    all_goals congr 2
    all_goals symm
    all_goals rw [ckN k a b c d f (by omega)]
    all_goals (repeat' split) <;> omega
end Go.Proofs.Ytmneajmedopheaa
namespace Go.Proofs.Ytmneajmedopheaa
open Go.RowKit Ex
set_option maxRecDepth 100000
/-- A state's box, loaded whole, behind a guard or not. -/
theorem load_wantS {ops : Array Oper} {rest : List Oper} {op : Oper} {a : Act} {w : World} {Q : Exit → Act → World → Prop} (hw : Region.wanted op (yielded ops a.tmps) = true) (x : Operand) (ho : op.op = .load 29 x)
    (g : Nat) (hx : a.eval x = .pointer (some ⟨g, 0, none⟩)) (cs : Array Value) (h : StAt w g cs) (hs : cs.size = 37)
    (hK : wpList Try.prog ops Q rest (a.put op.dst (.agg cs)) w) : wpList Try.prog ops Q (op :: rest) a w := by
  refine BigFrame.wpList_want hw fun _ hK' => wp_load_row 29 x ho g hx 29 cs (0, 0) _ h Try.underlying29 rfl (by rw [hs]; exact size37) (hK' _ _ hK)
theorem yields_st {ops : Array Oper} {S : World → Prop} {op : Oper} {a : Act} (hw : Region.wanted op (yielded ops a.tmps) = true) (x : Operand) (ho : op.op = .load 29 x)
    (g : Nat) (hx : a.eval x = .pointer (some ⟨g, 0, none⟩)) (cs : Array Value) (hs : cs.size = 37) (hS : ∀ w, S w → StAt w g cs) : YieldsIf Try.prog ops S op (.agg cs) a := by
  have h := yieldsIf_load_mid (P := Try.prog) (S := S) hw 29 x ho g 0 hx cs.toList _ (fun w hSw j v hv => by
    rw [Array.getElem?_toList] at hv
    rw [(hS w hSw).cell, Nat.zero_add]
    exact hv) Try.underlying29 rfl (by rw [Array.length_toList, hs]; exact size37)
  rw [Array.toArray_toList] at h
  exact h
/-- What is not long. -/
theorem long_not {s : StT} {most : Nat} (h : longS s most = false) : s.objs.length ≤ most ∧ ∀ z < 11, (s.lists z).length ≤ most + 10 := by
  simp only [longS, Bool.or_eq_false_iff, decide_eq_false_iff_not, List.any_eq_false, List.mem_range, decide_eq_true_eq] at h
  exact ⟨by have := h.1; omega, fun z hz => by have := h.2 z hz; omega⟩
theorem box_new (w : World) (cs : Array Value) : ∃ W, W = (w.alloc (.cells st0 29)).setRow w.heap.size cs ∧ StAt W w.heap.size cs ∧ Below w.heap.size w W :=
  ⟨_, rfl, setRow_heap _ _ _ _ _ _ (heap_alloc_new _ _), below_setRow ((Below.refl _ _).alloc (Nat.le_refl _) _) _ _ (Nat.le_refl _)⟩
end Go.Proofs.Ytmneajmedopheaa
namespace Go.Proofs.Ytmneajmedopheaa
open Go.RowKit Ex
attribute [local go_sem] arr_get
set_option maxRecDepth 100000
theorem yields_obj {ops : Array Oper} {S : World → Prop} {op : Oper} {a : Act} (hw : Region.wanted op (yielded ops a.tmps) = true) (x : Operand) (ho : op.op = .load 52 x)
    (b o : Nat) (hx : a.eval x = .pointer (some ⟨b, o, none⟩)) (f : Nat → Int) (hS : ∀ w, S w → w.rangeAt b o (arr .i64 18 f).toList) : YieldsIf Try.prog ops S op (.agg (arr .i64 18 f)) a := by
  have h := yieldsIf_load_mid (P := Try.prog) (S := S) hw 52 x ho b o hx (arr .i64 18 f).toList _ hS Try.underlying52 rfl (by rw [Array.length_toList, arr_size]; exact st_size18)
  rw [Array.toArray_toList] at h
  exact h
theorem load_twoW {ops : Array Oper} {rest : List Oper} {op : Oper} {a : Act} {w : World} {Q : Exit → Act → World → Prop} (hw : Region.wanted op (yielded ops a.tmps) = true) (x : Operand) (ho : op.op = .load 26 x)
    (b o : Nat) (hx : a.eval x = .pointer (some ⟨b, o, none⟩)) (f : Nat → Int) (h : w.rangeAt b o (arr .i64 18 f).toList)
    (hK : wpList Try.prog ops Q rest (a.put op.dst (.agg (arr .i64 18 f))) w) : wpList Try.prog ops Q (op :: rest) a w := by
  refine BigFrame.wpList_want hw fun _ hK' => wp_load_mid 26 x ho b o hx (arr .i64 18 f).toList _ h Try.underlying26 rfl (by rw [Array.length_toList, arr_size]; exact size18p) (hK' _ _ ?_)
  rw [Array.toArray_toList]
  exact hK
theorem load_sevenW {ops : Array Oper} {rest : List Oper} {op : Oper} {a : Act} {w : World} {Q : Exit → Act → World → Prop} (hw : Region.wanted op (yielded ops a.tmps) = true) (x : Operand) (ho : op.op = .load 27 x)
    (b o : Nat) (hx : a.eval x = .pointer (some ⟨b, o, none⟩)) (f : Nat → Int) (h : w.rangeAt b o (arr .i64 7 f).toList)
    (hK : wpList Try.prog ops Q rest (a.put op.dst (.agg (arr .i64 7 f))) w) : wpList Try.prog ops Q (op :: rest) a w := by
  refine BigFrame.wpList_want hw fun _ hK' => wp_load_mid 27 x ho b o hx (arr .i64 7 f).toList _ h Try.underlying27 rfl (by rw [Array.length_toList, arr_size]; exact st_size7) (hK' _ _ ?_)
  rw [Array.toArray_toList]
  exact hK
/-- Two boxes with states. -/
structure TwoS (w : World) (ga gb : Nat) (ca cb : Array Value) (W : World) : Prop where
  b : Below w.heap.size w W
  sa : StAt W ga ca
  sb : StAt W gb cb
theorem TwoS.keep {w : World} {ga gb : Nat} {ca cb : Array Value} {W W' : World} (h : TwoS w ga gb ca cb W) (hb : Below W.heap.size W W') : TwoS w ga gb ca cb W' := ⟨keepB hb h.b, h.sa.keep hb, h.sb.keep hb⟩
theorem TwoS.drewN {w : World} {ga gb : Nat} {ca cb : Array Value} {W : World} (h : TwoS w ga gb ca cb W) (m : Nat) : TwoS w ga gb ca cb (W.drewN m) := ⟨below_drewN h.b m, h.sa, h.sb⟩
end Go.Proofs.Ytmneajmedopheaa
namespace Go.Proofs.Ytmneajmedopheaa
open Go.RowKit Ex
set_option maxRecDepth 100000
/-- append of one object to objects of the call's own. -/
theorem wpList_appO1 {ops : Array Oper} {rest : List Oper} {o : Oper} {a : Act} {w : World} {Q : Exit → Act → World → Prop} (hgd : o.guard = none) (s x : Operand)
    (ho : o.op = .call { callee := .builtin .append, args := #[s, x], argTypes := #[22, 22] })
    (base : Nat) (A : Option Addr) (n c : Nat) (l : List (Nat → Int)) (hs : a.eval s = .slice A n c) (h : w.ownsRow base 52 18 (.slice A n c) n (flatO l))
    (g c2 : Nat) (f : Nat → Int) (hx : a.eval x = .slice (some ⟨g, 0, none⟩) 1 c2) (hr : ObAt w g f) (hn : n ≤ 1000000) (hbase : base ≤ w.heap.size)
    (hK : ∀ A' c' w', w'.ownsRow base 52 18 (.slice A' (n + 1) c') (n + 1) (flatO (l ++ [f])) → w.grownBy w' (Value.slice A n c).ownBlock → wpList Try.prog ops Q rest (a.put o.dst (.slice A' (n + 1) c')) w') :
    wpList Try.prog ops Q (o :: rest) a w := by
  obtain ⟨i0, hi, hz0, hz1, hz2⟩ := info_parts info_obj
  refine wpList_append_own_at w hgd s x 22 ho base 52 i0 _ 18 144 Try.underlying22 hi hz0 hz1 hz2 (show (arr .i64 18 fun _ => 0).size = 18 by rw [arr_size]) (by omega) _ n (flatO l) hs h ⟨g, 0, none⟩ 1 c2 (flatO [f]) hx (by rw [flatO_len]; rfl)
    (fun j u hj => ?_) (flatO_one [f]) (by unfold maxLen; omega) (by omega) hbase ?_
  · rw [Addr.add_mid, Nat.zero_add, cell_of_row w g j _ _ _ hr, ← Array.getElem?_toList]
    simpa [flatO] using hj
  · intro v' w' hown hgr _ _
    rw [← show flatO (l ++ [f]) = flatO l ++ flatO [f] by simp [flatO]] at hown
    have hform : ∃ A' c', v' = .slice A' (n + 1) c' := by
      rcases hown.2 with ⟨rfl, hz⟩ | ⟨g', cap, _, rfl, _⟩
      · omega
      · exact ⟨_, _, rfl⟩
    obtain ⟨A', c', rfl⟩ := hform
    exact hK A' c' w' hown hgr
theorem buildSlice_of (f : Nat → Int) (W : World) : (Instr.buildSlice 22 1 #[(0, .agg (arr .i64 18 f))]).run Try.prog W = .ok (.slice (some ⟨W.heap.size, 0, none⟩) 1 1) (W.alloc (.cells (arr .i64 18 f) 52)) := by kernel_rfl
theorem wpList_buildSliceOf {ops : Array Oper} {rest : List Oper} {o : Oper} {a : Act} {w : World} {Q : Exit → Act → World → Prop} (hg : o.guard = none) (x : Operand) (ho : o.op = .buildSlice 22 1 #[(0, x)]) (f : Nat → Int)
    (hx : a.eval x = .agg (arr .i64 18 f)) (hK : wpList Try.prog ops Q rest (a.put o.dst (.slice (some ⟨w.heap.size, 0, none⟩) 1 1)) (w.alloc (.cells (arr .i64 18 f) 52))) : wpList Try.prog ops Q (o :: rest) a w := by
  refine wpList_plain hg fun K' hK' => ?_
  unfold Oper.wp
  simp [execOp, ho, hx, buildSlice_of, Result.andThen]
  exact hK' _ _ hK
end Go.Proofs.Ytmneajmedopheaa
namespace Go.Proofs.Ytmneajmedopheaa
open Go.RowKit
/-- append of any slice of numbers to one of the call's own, with where it lies then. -/
theorem run_appG {P : Program} (w : World) (k : IntKind) (base : Nat) (t ty e : TypeId) (i : TypeInfo) (z : Value) (bytes : Nat) (ht : P.underlying t = some (.slice e)) (hi : P.info? e = some i) (hz : i.zero = some z)
    (hsize : i.size = 1) (hby : i.bytes = bytes) (hzs : z.cells.size = 1)
    {A : Option Addr} {n c : Nat} {l : List Int} (hown : Own k e w base A n c l) {B : Nat} {A2 : Option Addr} {m c2 : Nat} {l2 : List Int} (h2 : Nums k w B A2 m l2)
    (hsm : n + m ≤ 4294967296) (hb8 : bytes ≤ 8) (hbase : base ≤ w.heap.size) :
    ∃ A' c' w', (Builtin.append_ #[t, t] ty #[.slice A n c, .slice A2 m c2]).run P w = .ok (.slice A' (n + m) c') w' ∧ Own k e w' base A' (n + m) c' (l ++ l2) ∧ w.grownBy w' (Value.slice A n c).ownBlock ∧
      ((Value.slice A' (n + m) c').ownBlock = (Value.slice A n c).ownBlock ∨ (Value.slice A' (n + m) c').ownBlock = some w.heap.size) := by
  have hlen : (l ++ l2).length = n + m := by rw [List.length_append, hown.1, h2.1]
  rcases A2 with _ | ad
  · have hl2 : l2 = [] := by
      cases l2 with
      | nil => rfl
      | cons x r => obtain ⟨a, e, _⟩ := h2.2 0 x (by simp); cases e
    subst hl2
    obtain rfl : m = 0 := by have := h2.1; simpa using this.symm
    exact ⟨A, c, w, run_app_nil w base t ty e i ht hi _ n _ hown.2 c2, by simpa using hown, World.grownBy.refl w _, .inl rfl⟩
  · obtain ⟨v', w', hrun, h3, h4, _, h5⟩ := run_append_own_at (P := P) w base t ty e i z 1 bytes ht hi hz hsize hby hzs (by omega) (.slice A n c) n (l.map (Value.int k)) hown.2 ad m c2 (l2.map (Value.int k))
      (by rw [List.length_map, h2.1]; omega)
      (fun j u hj => by
        rw [List.getElem?_map, Option.map_eq_some_iff] at hj
        obtain ⟨x, hx, rfl⟩ := hj
        obtain ⟨a, ea, _, hc⟩ := h2.2 j x hx
        injection ea with ea
        subst ea
        exact hc) (ints_one k l2) (by unfold maxLen; omega)
      (by have : (n + m) * bytes ≤ 4294967296 * 8 := Nat.mul_le_mul hsm hb8
          omega) hbase
    rw [← List.map_append] at h3
    rcases h3.2 with ⟨rfl, hn⟩ | ⟨g, cap, cur, rfl, rest⟩
    · rw [hn] at h3 ⊢
      refine ⟨none, 0, w', hrun, ⟨by omega, h3⟩, h4, h5⟩
    · exact ⟨_, cap, w', hrun, ⟨hlen, h3⟩, h4, h5⟩
theorem wpList_appG {P : Program} {w : World} {ops : Array Oper} {rest : List Oper} {o : Oper} {a : Act} {Q : Exit → Act → World → Prop} (hgd : o.guard = none) (s x : Operand) (t : TypeId)
    (ho : o.op = .call { callee := .builtin .append, args := #[s, x], argTypes := #[t, t] })
    (k : IntKind) (base : Nat) (e : TypeId) (i : TypeInfo) (z : Value) (bytes : Nat) (ht : P.underlying t = some (.slice e)) (hi : P.info? e = some i) (hz : i.zero = some z)
    (hsize : i.size = 1) (hby : i.bytes = bytes) (hzs : z.cells.size = 1)
    (A : Option Addr) (n c : Nat) (l : List Int) (hs : a.eval s = .slice A n c) (hown : Own k e w base A n c l)
    (B : Nat) (A2 : Option Addr) (m c2 : Nat) (l2 : List Int) (hx : a.eval x = .slice A2 m c2) (h2 : Nums k w B A2 m l2)
    (hsm : n + m ≤ 4294967296) (hb8 : bytes ≤ 8) (hbase : base ≤ w.heap.size)
    (h : ∀ A' c' w', Own k e w' base A' (n + m) c' (l ++ l2) → w.grownBy w' (Value.slice A n c).ownBlock → ((Value.slice A' (n + m) c').ownBlock = (Value.slice A n c).ownBlock ∨ (Value.slice A' (n + m) c').ownBlock = some w.heap.size) →
      wpList P ops Q rest (a.put o.dst (.slice A' (n + m) c')) w') :
    wpList P ops Q (o :: rest) a w := by
  refine wpList_plain hgd fun K hK => ?_
  obtain ⟨A', c', w', hr, h3, h4, h5⟩ := run_appG (P := P) w k base t o.type e i z bytes ht hi hz hsize hby hzs hown (c2 := c2) h2 hsm hb8 hbase
  unfold Oper.wp execOp
  simp only [ho, resolve, invoke, builtin, Sem.run_bind, Sem.run_pure, Result.andThen_ok, List.map_toArray, List.map_cons, List.map_nil, hs, hx, hr]
  exact hK _ _ (h A' c' w' h3 h4 h5)
end Go.Proofs.Ytmneajmedopheaa
namespace Go.Proofs.Ytmneajmedopheaa
open Go.RowKit Ex
set_option maxRecDepth 100000
/-- The blocks of a state's slices. -/
def OwnB (O : SlT) (L : Nat → SlT) (j : Nat) : Prop := O.v.ownBlock = some j ∨ ∃ z, z < 11 ∧ (L z).v.ownBlock = some j
/-- Where the boxes stand: the event's, the result's, the state's. -/
structure ApB (w : World) (ge gr gs : Nat) : Prop where
  e : w.heap.size ≤ ge
  r : ge < gr
  s : gr < gs
structure AP (w : World) (ge gr gs : Nat) (e : EvT) (s : StT) (O : SlT) (L : Nat → SlT) (W : World) : Prop where
  b : Below w.heap.size w W
  e : EvB W ge e
  r : StAt W gr st0
  a : StAt W gs (stC O L s.pl s.gm)
  o : OwnS W w.heap.size s O L
  ne : ∀ j, OwnB O L j → j ≠ ge ∧ j ≠ gr ∧ j ≠ gs
section
variable {w : World} {ge gr gs : Nat} {e : EvT} {s : StT} {O : SlT} {L : Nat → SlT} {W W' : World}
theorem AP.keep (h : AP w ge gr gs e s O L W) (hb : Below W.heap.size W W') : AP w ge gr gs e s O L W' := ⟨keepB hb h.b, h.e.keep hb, h.r.keep hb, h.a.keep hb, h.o.below hb, h.ne⟩
theorem AP.drew (h : AP w ge gr gs e s O L W) : AP w ge gr gs e s O L W.drew := h.keep (Below.refl _ _).drew
theorem OwnS.but (h : OwnS W w.heap.size s O L) {g : Nat} (hne : ∀ j, OwnB O L j → j ≠ g) (i : Nat) (v : Value) : OwnS (W.setCell ⟨g, i, none⟩ v) w.heap.size s O L :=
  ⟨h.on, owns_keep h.o fun j hj => heap_setCell_other W ⟨g, i, none⟩ j v (by simpa using hne j (.inl hj)), fun z hz => ⟨(h.l z hz).1, owns_keep (h.l z hz).2 fun j hj => heap_setCell_other W ⟨g, i, none⟩ j v (by simpa using hne j (.inr ⟨z, hz, hj⟩))⟩, h.d⟩
/-- The players' and the game's numbers. -/
theorem AP.nums (h : AP w ge gr gs e s O L W) (hB : ApB w ge gr gs) (i : Nat) (v : Value) {p q : Nat → Int} (hc : (stC O L s.pl s.gm).setIfInBounds i v = stC O L p q) : AP w ge gr gs e ⟨s.objs, s.lists, p, q⟩ O L (W.setCell ⟨gs, i, none⟩ v) := by
  obtain ⟨b1, b2, b3⟩ := hB
  have ho := h.o.but (g := gs) (fun j hj => (h.ne j hj).2.2) i v
  refine ⟨h.b.setCell (by simp; omega) _, h.e.far (by omega) i v, (heap_setCell_other W ⟨gs, i, none⟩ gr v (by simp; omega)).trans h.r, ?_, ⟨ho.on, ho.o, ho.l, ho.d⟩, h.ne⟩
  unfold StAt
  rw [heap_setCell_same W gs i _ _ _ h.a, hc]
end
theorem flatO_set : ∀ (os : List (Nat → Int)) (i j : Nat) (x : Int), i < os.length → j < 18 → (flatO os).set (i * 18 + j) (.int .i64 x) = flatO (setO os i j x)
  | [], i, j, x, h, _ => by simp at h
  | o :: l, 0, j, x, _, hj => by
    simp only [flatO, setO, List.flatMap_cons, Nat.zero_mul, Nat.zero_add, List.set_cons_zero, List.getD_cons_zero]
    rw [List.set_append_left _ _ (by rw [Array.length_toList, arr_size]; exact hj), ← arr_set, Array.toList_setIfInBounds]
  | o :: l, i + 1, j, x, h, hj => by
    have ih := flatO_set l i j x (by simpa using h) hj
    simp only [flatO, setO, List.flatMap_cons, List.set_cons_succ, List.getD_cons_succ] at ih ⊢
    rw [List.set_append_right _ _ (by rw [Array.length_toList, arr_size]; omega), Array.length_toList, arr_size, show (i + 1) * 18 + j - 18 = i * 18 + j by omega, ih]
theorem owns_set {W : World} {base n c : Nat} {A : Option Addr} {os : List (Nat → Int)} (h : W.ownsRow base 52 18 (.slice A n c) n (flatO os)) {i j : Nat} (hi : i < os.length) (hj : j < 18) :
    ∃ g, A = some ⟨g, 0, none⟩ ∧ W.cell? ⟨g, i * 18 + j, none⟩ = some (.int .i64 (os[i] j)) ∧ W.frozen? ⟨g, i * 18 + j, none⟩ = false ∧ base ≤ g ∧
      ∀ x : Int, (W.setCell ⟨g, i * 18 + j, none⟩ (.int .i64 x)).ownsRow base 52 18 (.slice A n c) n (flatO (setO os i j x)) := by
  have hl := h.1
  rw [flatO_len] at hl
  rcases h.2 with ⟨hv, hn⟩ | ⟨g, cap, cur, hv, hb, hg, hc, hm, hs, ht⟩
  · omega
  · injection hv with h1 _ h3
    subst h1 h3
    have hlt : i * 18 + j < n * 18 := by omega
    have hat := flatO_at i os[i] (List.getElem?_eq_getElem hi) j (.int .i64 (os[i] j)) (by rw [Array.getElem?_toList, arr_get .i64 18 _ hj])
    refine ⟨g, rfl, ?_, frozen_of_row W g (i * 18 + j) cur _ hg, hb, fun x => ?_⟩
    · rw [cell_of_row W g (i * 18 + j) cur _ _ hg, ← Array.getElem?_toList, ← hat, ← ht, List.getElem?_take_of_lt hlt]
    · refine ⟨by rw [flatO_len, setO_len]; exact hl, .inr ⟨g, c, cur.setIfInBounds (i * 18 + j) (.int .i64 x), rfl, hb, heap_setCell_same W g (i * 18 + j) _ _ _ hg, hc, hm, by rw [Array.size_setIfInBounds]; exact hs, ?_⟩⟩
      rw [Array.toList_setIfInBounds, List.take_set, ht, flatO_set os i j x hi hj]
section
variable {w : World} {ge gr gs : Nat} {e : EvT} {s : StT} {L : Nat → SlT} {W : World} {g n c : Nat}
/-- An object's number is written. -/
theorem AP.setO (h : AP w ge gr gs e s ⟨some ⟨g, 0, none⟩, n, c⟩ L W) (q : Nat) {i j : Nat} (hi : i < s.objs.length) (hj : j < 18) (hq : q = i * 18 + j) (x : Int) : AP w ge gr gs e { s with objs := setO s.objs i j x } ⟨some ⟨g, 0, none⟩, n, c⟩ L (W.setCell ⟨g, q, none⟩ (.int .i64 x)) := by
  subst hq
  have ho : W.ownsRow w.heap.size 52 18 (.slice (some ⟨g, 0, none⟩) n c) n (flatO s.objs) := h.o.o
  obtain ⟨g', e', hcell, hfr, hb, hset⟩ := owns_set ho hi hj
  obtain rfl : g = g' := by injection e' with e'; injection e'
  obtain ⟨n1, n2, n3⟩ := h.ne g (.inl rfl)
  refine ⟨h.b.setCell (by simpa using hb) _, h.e.far (Ne.symm n1) _ _, (heap_setCell_other W ⟨g, i * 18 + j, none⟩ gr _ (by simpa using Ne.symm n2)).trans h.r, (heap_setCell_other W ⟨g, i * 18 + j, none⟩ gs _ (by simpa using Ne.symm n3)).trans h.a, ?_, h.ne⟩
  refine ⟨?_, hset x, fun z hz => ⟨(h.o.l z hz).1, owns_keep (h.o.l z hz).2 fun k hk => heap_setCell_other W ⟨g, i * 18 + j, none⟩ k _ ?_⟩, h.o.d⟩
  · show n = (Go.Proofs.Ytmneajmedopheaa.setO s.objs i j x).length
    rw [setO_len]; exact h.o.on
  · intro e
    have e : k = g := by simpa using e
    subst e
    rcases (h.o.l z hz).2.2 with ⟨hv, _⟩ | ⟨g2, cap, cur, hv, _, hg2, _⟩
    · have hk' : (Value.slice (L z).A (L z).n (L z).c).ownBlock = some k := hk
      rw [hv] at hk'; cases hk'
    · have hk' : (Value.slice (L z).A (L z).n (L z).c).ownBlock = some k := hk
      rw [hv] at hk'
      injection hk' with hk'
      have hk' : g2 = k := hk'
      subst hk'
      rcases ho.2 with ⟨hv, _⟩ | ⟨g3, cap3, cur3, hv3, _, hg3, _⟩
      · cases hv
      · injection hv3 with h1
        injection h1 with h1
        injection h1 with h1
        subst h1
        rw [hg2] at hg3
        injection hg3 with hg3
        injection hg3 with _ ht
        exact absurd ht (by decide)
end
section
variable {w : World} {ge gr gs : Nat} {e : EvT} {s : StT} {O : SlT} {L : Nat → SlT} {W W' : World}
/-- Other objects. -/
theorem AP.objs (h : AP w ge gr gs e s O L W) (hB : ApB w ge gr gs) (hg : W.grownBy W' O.v.ownBlock) {O' : SlT} {os : List (Nat → Int)} (ho : W'.ownsRow w.heap.size 52 18 O'.v O'.n (flatO os)) (hn : O'.n = os.length) :
    AP w ge gr gs e { s with objs := os } O' L (W'.setCell ⟨gs, 0, none⟩ O'.v) := by
  obtain ⟨b1, b2, b3⟩ := hB
  have hne : ∀ g, g = ge ∨ g = gr ∨ g = gs → some g ≠ O.v.ownBlock := fun g hg e => by
    have := h.ne g (.inl e.symm); omega
  have heW : W'.heap[ge]? = W.heap[ge]? := hg.block ge h.e.lt (hne ge (.inl rfl))
  have hrW : W'.heap[gr]? = W.heap[gr]? := hg.block gr h.r.lt (hne gr (.inr (.inl rfl)))
  have haW : W'.heap[gs]? = W.heap[gs]? := hg.block gs h.a.lt (hne gs (.inr (.inr rfl)))
  have hnew : ∀ j, O'.v.ownBlock = some j → j ≠ ge ∧ j ≠ gr ∧ j ≠ gs := fun j hj => by
    obtain ⟨_, cur, hc⟩ := own_ty ho hj
    refine ⟨?_, ?_, ?_⟩
    · rintro rfl; exact absurd (ty_same hc (heW.trans h.e)) (by decide)
    · rintro rfl; exact absurd (ty_same hc (hrW.trans h.r)) (by decide)
    · rintro rfl; exact absurd (ty_same hc (haW.trans h.a)) (by decide)
  refine ⟨(h.b.grown hg h.b.size (fun k hk => (own_ty h.o.o hk).1)).setCell (by simp; omega) _, (heap_setCell_other W' ⟨gs, 0, none⟩ ge _ (by simp; omega)).trans (heW.trans h.e), (heap_setCell_other W' ⟨gs, 0, none⟩ gr _ (by simp; omega)).trans (hrW.trans h.r), ?_, ⟨hn, ?_, fun z hz => ⟨(h.o.l z hz).1, ?_⟩, h.o.d⟩, ?_⟩
  · unfold StAt
    rw [heap_setCell_same W' gs 0 _ _ _ (haW.trans h.a), stC_set_objs]
  · exact owns_keep ho fun j hj => heap_setCell_other W' ⟨gs, 0, none⟩ j _ (by simpa using (hnew j hj).2.2)
  · refine owns_keep (h.o.l z hz).2 fun j hj => ?_
    obtain ⟨_, cur, hc⟩ := own_ty (h.o.l z hz).2 hj
    have h1 : some j ≠ O.v.ownBlock := fun e => by
      obtain ⟨_, cur2, hc2⟩ := own_ty h.o.o e.symm
      exact absurd (ty_same hc hc2) (by decide)
    exact (heap_setCell_other W' ⟨gs, 0, none⟩ j _ (by simpa using (h.ne j (.inr ⟨z, hz, hj⟩)).2.2)).trans (hg.block j (Array.getElem?_eq_some_iff.1 hc).1 h1)
  · rintro j (hj | ⟨z, hz, hj⟩)
    · exact hnew j hj
    · exact h.ne j (.inr ⟨z, hz, hj⟩)
/-- Another list. -/
theorem AP.list (h : AP w ge gr gs e s O L W) (hB : ApB w ge gr gs) {z : Nat} (hz : z < 11) (hg : W.grownBy W' (L z).v.ownBlock) {y : SlT} {l : List Int} (hy : Own .i64 3 W' w.heap.size y.A y.n y.c l) (hat : ∀ j, y.v.ownBlock = some j → W.heap.size ≤ j ∨ (L z).v.ownBlock = some j) :
    AP w ge gr gs e { s with lists := updL s.lists z l } O (updS L z y) (W'.setCell ⟨gs, 1 + z, none⟩ y.v) := by
  obtain ⟨b1, b2, b3⟩ := hB
  have hne : ∀ g, g = ge ∨ g = gr ∨ g = gs → some g ≠ (L z).v.ownBlock := fun g hg e => by
    have := h.ne g (.inr ⟨z, hz, e.symm⟩); omega
  have heW : W'.heap[ge]? = W.heap[ge]? := hg.block ge h.e.lt (hne ge (.inl rfl))
  have hrW : W'.heap[gr]? = W.heap[gr]? := hg.block gr h.r.lt (hne gr (.inr (.inl rfl)))
  have haW : W'.heap[gs]? = W.heap[gs]? := hg.block gs h.a.lt (hne gs (.inr (.inr rfl)))
  have hnew : ∀ j, y.v.ownBlock = some j → j ≠ ge ∧ j ≠ gr ∧ j ≠ gs := fun j hj => by
    obtain ⟨_, cur, hc⟩ := own_ty hy.2 hj
    refine ⟨?_, ?_, ?_⟩
    · rintro rfl; exact absurd (ty_same hc (heW.trans h.e)) (by decide)
    · rintro rfl; exact absurd (ty_same hc (hrW.trans h.r)) (by decide)
    · rintro rfl; exact absurd (ty_same hc (haW.trans h.a)) (by decide)
  have hset : ∀ j, j ≠ gs → (W'.setCell ⟨gs, 1 + z, none⟩ y.v).heap[j]? = W'.heap[j]? := fun j hj => heap_setCell_other W' ⟨gs, 1 + z, none⟩ j _ (by simpa using hj)
  have hdis : ∀ x, x < 11 → x ≠ z → ∀ j, (L x).v.ownBlock = some j → y.v.ownBlock ≠ some j := fun x hx hxz j hj e => by
    rcases hat j e with h1 | h1
    · have := (Array.getElem?_eq_some_iff.1 (own_ty (h.o.l x hx).2 hj).2.choose_spec).1; omega
    · exact h.o.d x hx z hz hxz j hj h1
  refine ⟨(h.b.grown hg h.b.size (fun k hk => (own_ty (h.o.l z hz).2 hk).1)).setCell (by simp; omega) _, (hset ge (by omega)).trans (heW.trans h.e), (hset gr (by omega)).trans (hrW.trans h.r), ?_, ⟨h.o.on, ?_, fun x hx => ?_, fun x hx x' hx' hxx j hj => ?_⟩, ?_⟩
  · unfold StAt
    rw [heap_setCell_same W' gs (1 + z) _ _ _ (haW.trans h.a), stC_set_list _ _ _ _ _ hz]
  · refine owns_keep h.o.o fun j hj => ?_
    obtain ⟨_, cur, hc⟩ := own_ty h.o.o hj
    have h1 : some j ≠ (L z).v.ownBlock := fun e => by
      obtain ⟨_, cur2, hc2⟩ := own_ty (h.o.l z hz).2 e.symm
      exact absurd (ty_same hc hc2) (by decide)
    exact (hset j (h.ne j (.inl hj)).2.2).trans (hg.block j (Array.getElem?_eq_some_iff.1 hc).1 h1)
  · show Own .i64 3 _ w.heap.size (updS L z y x).A (updS L z y x).n (updS L z y x).c (updL s.lists z l x)
    by_cases ex : x = z
    · subst ex
      rw [updL_at]
      simp only [updS, if_pos]
      exact ⟨hy.1, owns_keep hy.2 fun j hj => hset j (hnew j hj).2.2⟩
    · rw [updL_ne _ ex]
      simp only [updS, if_neg ex]
      refine ⟨(h.o.l x hx).1, owns_keep (h.o.l x hx).2 fun j hj => ?_⟩
      obtain ⟨_, cur, hc⟩ := own_ty (h.o.l x hx).2 hj
      exact (hset j (h.ne j (.inr ⟨x, hx, hj⟩)).2.2).trans (hg.block j (Array.getElem?_eq_some_iff.1 hc).1 (fun e => h.o.d x hx z hz ex j hj e.symm))
  · by_cases ex : x = z
    · subst ex
      have hx'z : ¬ x' = x := fun e => hxx e.symm
      simp only [updS, if_pos] at hj
      simp only [updS, if_neg hx'z]
      intro h2
      exact hdis x' hx' hx'z j h2 hj
    · simp only [updS, if_neg ex] at hj
      by_cases ex' : x' = z
      · subst ex'
        simp only [updS, if_pos]
        exact hdis x hx ex j hj
      · simp only [updS, if_neg ex']
        exact h.o.d x hx x' hx' hxx j hj
  · rintro j (hj | ⟨x, hx, hj⟩)
    · exact h.ne j (.inl hj)
    · by_cases ex : x = z
      · subst ex; simp only [updS, if_pos] at hj; exact hnew j hj
      · simp only [updS, if_neg ex] at hj; exact h.ne j (.inr ⟨x, hx, hj⟩)
end
theorem build_oz (W : World) : (Instr.build 52 #[]).run Try.prog W = .ok (.agg (arr .i64 18 fun _ => 0)) W := by kernel_rfl
theorem wpList_buildO0 {ops : Array Oper} {rest : List Oper} {o : Oper} {a : Act} {w : World} {Q : Exit → Act → World → Prop} (hg : o.guard = none) (ho : o.op = .build 52 #[])
    (hK : wpList Try.prog ops Q rest (a.put o.dst (.agg (arr .i64 18 fun _ => 0))) w) : wpList Try.prog ops Q (o :: rest) a w := by
  refine wpList_plain hg fun K' hK' => ?_
  unfold Oper.wp
  simp [execOp, ho, build_oz, Result.andThen]
  exact hK' _ _ hK
theorem made_upd (a b c : Int) : updI (updI (updI (updI (updI (updI (fun _ => 0) 0 a) 1 b) 2 b) 3 10) 13 c) 17 3 = madeO a b c := by
  funext i
  unfold updI madeO
  by_cases h0 : i = 0
  · subst h0; rfl
  by_cases h1 : i = 1
  · subst h1; rfl
  by_cases h2 : i = 2
  · subst h2; rfl
  by_cases h3 : i = 3
  · subst h3; rfl
  by_cases h13 : i = 13
  · subst h13; rfl
  by_cases h17 : i = 17
  · subst h17; rfl
  simp [h0, h1, h2, h3, h13, h17]
theorem owns_take {W : World} {base k n c m : Nat} {e : TypeId} {A : Option Addr} {xs : List Value} (h : W.ownsRow base e k (.slice A n c) n xs) (hm : m ≤ n) : W.ownsRow base e k (.slice A m c) m (xs.take (m * k)) := by
  refine ⟨by rw [List.length_take, h.1]; exact Nat.min_eq_left (Nat.mul_le_mul_right k hm), ?_⟩
  rcases h.2 with ⟨hv, hn⟩ | ⟨g, cap, cur, hv, hb, hg, hc, hx, hs, ht⟩
  · injection hv with h1 _ h3
    subst h1 h3 hn
    obtain rfl : m = 0 := by omega
    exact .inl ⟨rfl, rfl⟩
  · injection hv with h1 _ h3
    subst h1 h3
    exact .inr ⟨g, c, cur, rfl, hb, hg, by omega, hx, hs, by rw [← ht, List.take_take, Nat.min_eq_left (Nat.mul_le_mul_right k hm)]⟩
theorem flatO_take : ∀ (os : List (Nat → Int)) (m : Nat), (flatO os).take (m * 18) = flatO (os.take m)
  | [], m => by simp [flatO]
  | o :: l, 0 => by simp [flatO]
  | o :: l, m + 1 => by
    have ih := flatO_take l m
    simp only [flatO, List.flatMap_cons, List.take_succ_cons] at ih ⊢
    rw [List.take_append, Array.length_toList, arr_size, show (m + 1) * 18 - 18 = m * 18 by omega, ih, List.take_of_length_le (by rw [Array.length_toList, arr_size]; omega)]
theorem Own.take_ {k : IntKind} {e : TypeId} {w : World} {base n c m : Nat} {A : Option Addr} {l : List Int} (h : Own k e w base A n c l) (hm : m ≤ n) : Own k e w base A m c (l.take m) := by
  refine ⟨by rw [List.length_take, h.1]; exact Nat.min_eq_left hm, ?_⟩
  have := owns_take h.2 hm
  rwa [Nat.mul_one, ← List.map_take] at this
theorem cut_objs (g n c m : Nat) (hm : m ≤ c) (hc : 0 < c) (W : World) : (Instr.slice 22 (.slice (some ⟨g, 0, none⟩) n c) none (some (.int .i64 (m : Int))) none).run Try.prog W = .ok (.slice (some ⟨g, 0, none⟩) m c) W := by
  rw [run_slice_h W 22 (some ⟨g, 0, none⟩) n c (by kernel_rfl) .i64 (m : Int) (by omega) (by omega), show (sizeOf (Try.prog.elem 22)).run Try.prog W = .ok 18 W by kernel_rfl]
  simp only [Result.andThen_ok, sliced, Int.toNat_natCast, Nat.sub_zero, Nat.zero_mul]
  rw [if_neg (by omega)]; rfl
theorem cut_ints (g n c m : Nat) (hm : m ≤ c) (hc : 0 < c) (W : World) : (Instr.slice 23 (.slice (some ⟨g, 0, none⟩) n c) none (some (.int .i64 (m : Int))) none).run Try.prog W = .ok (.slice (some ⟨g, 0, none⟩) m c) W := by
  rw [run_slice_h W 23 (some ⟨g, 0, none⟩) n c (by kernel_rfl) .i64 (m : Int) (by omega) (by omega), show (sizeOf (Try.prog.elem 23)).run Try.prog W = .ok 1 W by kernel_rfl]
  simp only [Result.andThen_ok, sliced, Int.toNat_natCast, Nat.sub_zero, Nat.zero_mul]
  rw [if_neg (by omega)]; rfl
theorem own_form {W : World} {base n c k : Nat} {e : TypeId} {A : Option Addr} {xs : List Value} (h : W.ownsRow base e k (.slice A n c) n xs) (hn : 0 < n) : ∃ g, A = some ⟨g, 0, none⟩ ∧ n ≤ c := by
  rcases h.2 with ⟨_, h0⟩ | ⟨g, cap, cur, hv, _, _, hc, _⟩
  · omega
  · injection hv with h1 _ h3
    exact ⟨g, h1, by rw [h3]; exact hc⟩
theorem mem_rmL {l : List Int} {i : Nat} {n : Int} (h : n ∈ rmL l i) : n ∈ l := by
  unfold rmL at h
  rcases List.mem_append.1 h with h | h
  · exact List.mem_of_mem_take h
  · exact List.mem_of_mem_drop h
theorem mem_insL {l : List Int} {i : Nat} {x n : Int} (h : n ∈ insL l i x) : n = x ∨ n ∈ l := by
  unfold insL at h
  rcases List.mem_append.1 h with h | h
  · exact .inr (List.mem_of_mem_take h)
  · rcases List.mem_cons.1 h with h | h
    · exact .inl h
    · exact .inr (List.mem_of_mem_drop h)
/-- What the reference's Apply answers. -/
def ApR (w : World) (r : StT × Int) (en : Ending) (w' : World) : Prop := ∃ cs O L, en = .returned (.tuple #[.agg cs, .int .i64 r.2]) ∧ ReadsS w'.heap.size w' cs r.1 O L ∧ OwnS w' w.heap.size r.1 O L ∧ Below w.heap.size w w'
/-- A state's numbers. -/
structure I64S (s : StT) : Prop where
  o : ∀ o ∈ s.objs, ∀ i < 18, N64 (o i)
  l : ∀ z < 11, ∀ n ∈ s.lists z, N64 n
  p : ∀ i < 18, N64 (s.pl i)
  g : ∀ i < 7, N64 (s.gm i)
theorem ReadsS.i64 {B : Nat} {w : World} {cs : Array Value} {s : StT} {O : SlT} {L : Nat → SlT} (h : ReadsS B w cs s O L) : I64S s := ⟨h.ow, h.lw, h.pw, h.gw⟩
theorem I64S.setO {s : StT} (h : I64S s) {i : Nat} (hi : i < s.objs.length) (j : Nat) {x : Int} (hx : N64 x) : I64S { s with objs := setO s.objs i j x } := by
  refine ⟨fun o ho k hk => ?_, h.l, h.p, h.g⟩
  have ho : o ∈ Go.Proofs.Ytmneajmedopheaa.setO s.objs i j x := ho
  unfold Go.Proofs.Ytmneajmedopheaa.setO at ho
  rcases List.mem_or_eq_of_mem_set ho with h1 | rfl
  · exact h.o o h1 k hk
  · unfold updI
    split
    · exact hx
    · rw [getD_in _ hi]; exact h.o _ (List.getElem_mem hi) k hk
theorem AP.final {w : World} {ge gr gs : Nat} {e : EvT} {s : StT} {O : SlT} {L : Nat → SlT} {W : World} (h : AP w ge gr gs e s O L W) (hI : I64S s) (cs : Array Value) : ReadsS (W.setRow gr cs).heap.size (W.setRow gr cs) (stC O L s.pl s.gm) s O L := by
  have ho : OwnS (W.setRow gr cs) w.heap.size s O L :=
    ⟨h.o.on, owns_keep h.o.o fun j hj => setRow_other W gr j cs (h.ne j (.inl hj)).2.1, fun z hz => ⟨(h.o.l z hz).1, owns_keep (h.o.l z hz).2 fun j hj => setRow_other W gr j cs (h.ne j (.inr ⟨z, hz, hj⟩)).2.1⟩, h.o.d⟩
  exact ho.reads hI.o hI.l hI.p hI.g
theorem own_zero (W : World) (base : Nat) : OwnS W base sT0 nilS (fun _ => nilS) :=
  ⟨rfl, obj_nil W base, fun z _ => (Own.nil W).base_le (Nat.le_refl _), fun y _ z _ _ j hj => by cases hj⟩
theorem AP.finalO {w : World} {ge gr gs : Nat} {e : EvT} {s : StT} {O : SlT} {L : Nat → SlT} {W : World} (h : AP w ge gr gs e s O L W) (cs : Array Value) : OwnS (W.setRow gr cs) w.heap.size s O L :=
  ⟨h.o.on, owns_keep h.o.o fun j hj => setRow_other W gr j cs (h.ne j (.inl hj)).2.1, fun z hz => ⟨(h.o.l z hz).1, owns_keep (h.o.l z hz).2 fun j hj => setRow_other W gr j cs (h.ne j (.inr ⟨z, hz, hj⟩)).2.1⟩, h.o.d⟩
theorem st0_size' : (Try.prog.info? 29).map (·.size) = some st0.size := by rw [show st0.size = 37 from stC_size _ _ _ _]; exact size37
theorem st0_one' : st0.all (·.oneCell') = true := stC_one _ _ _ _
end Go.Proofs.Ytmneajmedopheaa
