/- Layer 17: a creature's shape as plain data: pass by pass. -/
import Derived.Test.YtplfblccaeligaaDoorShMath
import Derived.Test.YtplfblccaeligaaDoorBitsMath
namespace Go.Proofs.YtplfblccaeligaaDoor
open Go.RowKit Ex Mx Bx
/-- Words with those of a number, or without them: the lowest j bits done. -/
def turnW (x n : Nat) (b : Bool) : Nat → Nat
  | 0 => x
  | j + 1 => if n.testBit j = true then setB (turnW x n b j) (j : Int) b else turnW x n b j
theorem turnW_lt (x n : Nat) (b : Bool) (hx : x < 2 ^ 64) : ∀ j, turnW x n b j < 2 ^ 64
  | 0 => hx
  | j + 1 => by
    simp only [turnW]
    split
    · exact numB_lt _ _
    · exact turnW_lt x n b hx j
theorem turnW_bit (x n : Nat) (b : Bool) (i : Nat) (hi : i < 64) : ∀ j, (turnW x n b j).testBit i = if i < j ∧ n.testBit i = true then b else x.testBit i
  | 0 => by simp [turnW]
  | j + 1 => by
    have ih := turnW_bit x n b i hi j
    simp only [turnW]
    split
    · rename_i hj
      unfold setB
      rw [testBit_numB]
      by_cases e : i = j
      · subst e; simp [hi, hj]
      · have h1 : ¬ ((i : Int) = (j : Int)) := by omega
        simp only [hi, decide_true, Bool.true_and, h1, if_false, ih]
        by_cases h2 : i < j
        · have h3 : i < j + 1 := by omega
          simp [h2, h3]
        · rw [if_neg (by omega), if_neg (by omega)]
    · rename_i hj
      rw [ih]
      by_cases e : i = j
      · subst e; simp [hj]
      · by_cases h2 : i < j
        · have h3 : i < j + 1 := by omega
          simp [h2, h3]
        · rw [if_neg (by omega), if_neg (by omega)]
/-- What a static does: the first effect within it. -/
def sub0 (e : ET) : ET := e.subs.headD (.node 0 0 0 0 [])
/-- Power and toughness: what it becomes. -/
def becS (s : StT) (id : Int) (pt : Int × Int) (x : Int × ET) : Int × Int := if (sub0 x.2).op = 24 ∧ grpB s x id = true then ((sub0 x.2).n, (sub0 x.2).m) else pt
/-- .. and what is added. -/
def pumS (s : StT) (id : Int) (pt : Int × Int) (x : Int × ET) : Int × Int := if (sub0 x.2).op = 10 ∧ grpB s x id = true then (pt.1 + (sub0 x.2).n, pt.2 + (sub0 x.2).m) else pt
/-- Words granted, words stripped. -/
def wordS (s : StT) (id : Int) (u : Nat) (x : Int × ET) : Nat := if ((sub0 x.2).op = 23 ∨ (sub0 x.2).op = 25) ∧ grpB s x id = true then turnW u (sub0 x.2).n.toNat (decide ((sub0 x.2).op = 23)) 8 else u
theorem statO_mem {id : Int} {x : Int × ET} : ∀ {l : List AbT}, x ∈ statO id l → ∃ a ∈ l, a.when_ = 5 ∧ x = (id, a.do_)
  | [], h => by simp [statO] at h
  | a :: l, h => by
    simp only [statO, List.mem_append] at h
    rcases h with h | h
    · split at h
      · rename_i h5
        exact ⟨a, List.mem_cons_self, h5, by simpa using h⟩
      · simp at h
    · obtain ⟨b, hb, h5, e⟩ := statO_mem h
      exact ⟨b, List.mem_cons_of_mem _ hb, h5, e⟩
theorem statL_mem {s : StT} {x : Int × ET} : ∀ {l : List Int}, x ∈ statL s l → ∃ id ∈ l, ∃ a ∈ (cdS s id).abs, a.when_ = 5 ∧ x = (id, a.do_)
  | [], h => by simp [statL] at h
  | i :: l, h => by
    simp only [statL, List.mem_append] at h
    rcases h with h | h
    · exact ⟨i, List.mem_cons_self, statO_mem h⟩
    · obtain ⟨b, hb, h5⟩ := statL_mem h
      exact ⟨b, List.mem_cons_of_mem _ hb, h5⟩
/-- What the table's statics do. -/
def SubOk (e : ET) : Prop := e.subs ≠ [] ∧ -100 ≤ (sub0 e).n ∧ (sub0 e).n ≤ 255 ∧ -100 ≤ (sub0 e).m ∧ (sub0 e).m ≤ 255 ∧ (((sub0 e).op = 23 ∨ (sub0 e).op = 25) → 0 ≤ (sub0 e).n)
instance (e : ET) : Decidable (SubOk e) := inferInstanceAs (Decidable (_ ∧ _))
namespace Ex
theorem tbl_sub : ∀ n < 120, ∀ a ∈ (tblC n).abs, a.when_ = 5 → SubOk a.do_ := by decide +kernel
end Ex
theorem stat_ok {s : StT} {x : Int × ET} (h : x ∈ statS s) : x.1 ∈ s.lists 8 ∧ SubOk x.2 := by
  obtain ⟨id, hid, a, ha, h5, rfl⟩ := statL_mem h
  refine ⟨hid, ?_⟩
  unfold cdS tblX at ha
  split at ha
  · exact tbl_sub _ (by omega) a ha h5
  · simp at ha
theorem bec_bd (s : StT) (id : Int) : ∀ (l : List (Int × ET)) (pt : Int × Int), (∀ x ∈ l, SubOk x.2) → (-100 ≤ pt.1 ∧ pt.1 ≤ 255 ∧ -100 ≤ pt.2 ∧ pt.2 ≤ 255) →
    -100 ≤ (l.foldl (becS s id) pt).1 ∧ (l.foldl (becS s id) pt).1 ≤ 255 ∧ -100 ≤ (l.foldl (becS s id) pt).2 ∧ (l.foldl (becS s id) pt).2 ≤ 255
  | [], pt, _, h => h
  | x :: l, pt, ho, h => by
    have hx := ho x List.mem_cons_self
    refine bec_bd s id l _ (fun y hy => ho y (List.mem_cons_of_mem _ hy)) ?_
    unfold becS
    split
    · exact ⟨hx.2.1, hx.2.2.1, hx.2.2.2.1, hx.2.2.2.2.1⟩
    · exact h
theorem pum_bd (s : StT) (id : Int) (B : Int) : ∀ (l : List (Int × ET)) (pt : Int × Int), (∀ x ∈ l, SubOk x.2) → (-B ≤ pt.1 ∧ pt.1 ≤ B ∧ -B ≤ pt.2 ∧ pt.2 ≤ B) →
    -(B + 255 * l.length) ≤ (l.foldl (pumS s id) pt).1 ∧ (l.foldl (pumS s id) pt).1 ≤ B + 255 * l.length ∧ -(B + 255 * l.length) ≤ (l.foldl (pumS s id) pt).2 ∧ (l.foldl (pumS s id) pt).2 ≤ B + 255 * l.length
  | [], pt, _, h => by simpa using h
  | x :: l, pt, ho, h => by
    have hx := ho x List.mem_cons_self
    obtain ⟨_, h1, h2, h3, h4, _⟩ := hx
    have hn : -(B + 255) ≤ (pumS s id pt x).1 ∧ (pumS s id pt x).1 ≤ B + 255 ∧ -(B + 255) ≤ (pumS s id pt x).2 ∧ (pumS s id pt x).2 ≤ B + 255 := by
      unfold pumS
      split
      · dsimp only; omega
      · omega
    have := pum_bd s id (B + 255) l _ (fun y hy => ho y (List.mem_cons_of_mem _ hy)) hn
    simp only [List.foldl_cons, List.length_cons]
    omega
namespace Ex
theorem tbl_pt : ∀ n < 120, -100 ≤ (tblC n).power ∧ (tblC n).power ≤ 255 ∧ -100 ≤ (tblC n).tough ∧ (tblC n).tough ≤ 255 := by decide +kernel
end Ex
theorem cdS_pt (s : StT) (id : Int) : -100 ≤ (cdS s id).power ∧ (cdS s id).power ≤ 255 ∧ -100 ≤ (cdS s id).tough ∧ (cdS s id).tough ≤ 255 := by
  unfold cdS tblX
  split
  · exact tbl_pt _ (by omega)
  · exact ⟨by decide, by decide, by decide, by decide⟩
/-- A creature's shape: power, toughness, words. -/
def ofS (s : StT) (id : Int) : Int × Int × Nat :=
  (((statS s).foldl (pumS s id) (((statS s).foldl (becS s id) ((cdS s id).power, (cdS s id).tough)).1 + objS s id 7, ((statS s).foldl (becS s id) ((cdS s id).power, (cdS s id).tough)).2 + objS s id 7)).1 + objS s id 8,
   ((statS s).foldl (pumS s id) (((statS s).foldl (becS s id) ((cdS s id).power, (cdS s id).tough)).1 + objS s id 7, ((statS s).foldl (becS s id) ((cdS s id).power, (cdS s id).tough)).2 + objS s id 7)).2 + objS s id 9,
   turnW ((statS s).foldl (wordS s id) (cdS s id).says.toNat) (objS s id 10).toNat true 8)
def shV (x : Int × Int × Nat) : Array Value := #[.int .i64 x.1, .int .i64 x.2.1, .int .i64 ((x.2.2 : Nat) : Int)]
theorem turnW_256 {x n : Nat} {b : Bool} (hx : x < 256) {j : Nat} (hj : j ≤ 8) : turnW x n b j < 256 := by
  refine Nat.lt_pow_two_of_testBit (n := 8) _ fun i hi => ?_
  by_cases h64 : i < 64
  · have hn : ¬ (i < j ∧ n.testBit i = true) := fun h => by have := h.1; omega
    rw [turnW_bit x n b i h64 j, if_neg hn]
    exact Nat.testBit_lt_two_pow (Nat.lt_of_lt_of_le hx (show 2 ^ 8 ≤ 2 ^ i from Nat.pow_le_pow_right (by omega) hi))
  · exact Nat.testBit_lt_two_pow (Nat.lt_of_lt_of_le (turnW_lt x n b (by omega) j) (show 2 ^ 64 ≤ 2 ^ i from Nat.pow_le_pow_right (by omega) (by omega)))
theorem word_256 (s : StT) (id : Int) : ∀ (l : List (Int × ET)) (u : Nat), u < 256 → l.foldl (wordS s id) u < 256
  | [], u, h => h
  | x :: l, u, h => by
    refine word_256 s id l _ ?_
    unfold wordS
    split
    · exact turnW_256 h (Nat.le_refl _)
    · exact h
namespace Ex
theorem tbl_says : ∀ n < 120, 0 ≤ (tblC n).says ∧ (tblC n).says ≤ 255 := by decide +kernel
end Ex
theorem cdS_says (s : StT) (id : Int) : 0 ≤ (cdS s id).says ∧ (cdS s id).says ≤ 255 := by
  unfold cdS tblX
  split
  · exact tbl_says _ (by omega)
  · exact ⟨by decide, by decide⟩
end Go.Proofs.YtplfblccaeligaaDoor
