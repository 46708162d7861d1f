/- Layer 17: a counter more. -/
import Derived.Test.YtplfblccaeligaaDoorShSaid
import Derived.Test.YtplfblccaeligaaDoorShG3
import Derived.Test.YtplfblccaeligaaDoorObSet
namespace Go.Proofs.YtplfblccaeligaaDoor
open Go.RowKit Ex Mx
set_option maxRecDepth 100000
theorem right_mk {s : StT} (h : s.objs.length ≤ 400) (h1 : rangesB s = true) (h2 : zonesB s = true) (h3 : (s.objs.all formedB) = true) : chkS s = 0 := by
  unfold chkS
  rw [if_neg (by omega), if_neg (by simp [h1]), if_neg (by simp [h2]), if_neg (by rw [h3]; simp)]
theorem getD_at (os : List (Nat → Int)) {i : Nat} (h : i < os.length) : (os.getD i fun _ => 0) = os[i] := by
  rw [List.getD_eq_getElem?_getD, List.getElem?_eq_getElem h]; rfl
/-- Another object in a right one's place: as right as before. -/
theorem right_set {s : StT} (h : chkS s = 0) {k : Nat} {o f : Nat → Int} (ho : s.objs[k]? = some o) (hb : objectB f s.objs.length = true) (hf : formedB f = true) (h1 : f 1 = o 1) (h3 : f 3 = o 3) (h13 : f 13 = o 13) : chkS ⟨s.objs.set k f, s.lists, s.pl, s.gm⟩ = 0 := by
  obtain ⟨g0, g1, g2, g3⟩ := right_parts h
  have hk := (List.getElem?_eq_some_iff.1 ho).1
  have e : s.objs[k] = o := (List.getElem?_eq_some_iff.1 ho).2
  refine right_mk (by show (s.objs.set k _).length ≤ 400; rw [List.length_set]; exact g0) ?_ ?_ ?_
  · unfold rangesB at g1 ⊢
    simp only [Bool.and_eq_true, List.all_eq_true, List.length_set] at g1 ⊢
    refine ⟨⟨⟨fun x hx => ?_, g1.1.1.2⟩, g1.1.2⟩, g1.2⟩
    rcases List.mem_or_eq_of_mem_set hx with hx | rfl
    · exact g1.1.1.1 x hx
    · exact hb
  · unfold zonesB at g2 ⊢
    simp only [Bool.and_eq_true, List.all_eq_true, List.length_set, List.mem_range] at g2 ⊢
    refine ⟨by unfold listsB at *; simp only [List.length_set]; exact g2.1, fun i hi => ?_⟩
    have := g2.2 i hi
    have hs : zoneO ⟨s.objs.set k f, s.lists, s.pl, s.gm⟩ i ((s.objs.set k f).getD i fun _ => 0) = zoneO s i (s.objs.getD i fun _ => 0) := by
      by_cases hik : i = k
      · subst hik
        rw [getD_at _ (by rw [List.length_set]; exact hi), getD_at _ hi, List.getElem_set_self, e]
        unfold zoneO wrongO apartB timesN
        rw [h1, h3, h13]
      · rw [getD_at _ (by rw [List.length_set]; exact hi), getD_at _ hi, List.getElem_set_ne (by omega)]
        rfl
    rw [hs]; exact this
  · simp only [List.all_eq_true] at g3 ⊢
    intro x hx
    rcases List.mem_or_eq_of_mem_set hx with hx | rfl
    · exact g3 x hx
    · exact hf
/-- A counter more. -/
def growO (o : Nat → Int) : Nat → Int := updI o 7 (o 7 + 1)
def growS (s : StT) (k : Nat) (o : Nat → Int) : StT := ⟨s.objs.set k (growO o), s.lists, s.pl, s.gm⟩
theorem growO_ne {o : Nat → Int} {i : Nat} (h : i ≠ 7) : growO o i = o i := by unfold growO updI; simp [h]
theorem growO_7 (o : Nat → Int) : growO o 7 = o 7 + 1 := by unfold growO updI; simp
theorem grow_right {s : StT} (h : chkS s = 0) {k : Nat} {o : Nat → Int} (ho : s.objs[k]? = some o) (h8 : o 3 = 8) (h7 : o 7 ≤ 1000) : chkS (growS s k o) = 0 := by
  have hob := right_obj h ho
  have hn := right_nums h ho
  refine right_set h ho ?_ ?_ (growO_ne (by omega)) (growO_ne (by omega)) (growO_ne (by omega))
  · unfold objectB at hob ⊢
    simp only [Bool.and_eq_true] at hob ⊢
    rw [growO_7]
    simp only [growO_ne (o := o) (i := 0) (by omega), growO_ne (o := o) (i := 1) (by omega), growO_ne (o := o) (i := 2) (by omega), growO_ne (o := o) (i := 3) (by omega), growO_ne (o := o) (i := 4) (by omega), growO_ne (o := o) (i := 5) (by omega), growO_ne (o := o) (i := 6) (by omega), growO_ne (o := o) (i := 8) (by omega), growO_ne (o := o) (i := 9) (by omega), growO_ne (o := o) (i := 10) (by omega), growO_ne (o := o) (i := 11) (by omega), growO_ne (o := o) (i := 12) (by omega), growO_ne (o := o) (i := 13) (by omega), growO_ne (o := o) (i := 14) (by omega), growO_ne (o := o) (i := 15) (by omega), growO_ne (o := o) (i := 16) (by omega), growO_ne (o := o) (i := 17) (by omega)]
    have hi : inR (o 7 + 1) 0 1073741824 = true := by unfold inR; simp; omega
    simp only [hi, hob, and_self]
  · have hfm : formedB o = true := by
      have h3 := (right_parts h).2.2.2
      rw [List.all_eq_true] at h3
      exact h3 o (List.mem_of_getElem? ho)
    unfold formedB at hfm ⊢
    simp only [growO_ne (o := o) (i := 1) (by omega), growO_ne (o := o) (i := 2) (by omega), growO_ne (o := o) (i := 3) (by omega), growO_ne (o := o) (i := 16) (by omega), h8] at hfm ⊢
    simpa using hfm
section
variable {s : StT} {k : Nat} {o : Nat → Int}
theorem objS_grow (ho : s.objs[k]? = some o) (x : Int) : objS (growS s k o) x = if x.toNat = k then growO o else objS s x := by
  have hk := (List.getElem?_eq_some_iff.1 ho).1
  unfold objS growS
  simp only [List.getD_eq_getElem?_getD]
  by_cases e : x.toNat = k
  · rw [if_pos e, e, List.getElem?_set_self hk]; rfl
  · rw [if_neg e, List.getElem?_set_ne (Ne.symm e)]
theorem objS_same (ho : s.objs[k]? = some o) (x : Int) (h : x.toNat = k) : objS s x = o := by
  unfold objS
  rw [h, List.getD_eq_getElem?_getD, ho]; rfl
theorem objS_ne (ho : s.objs[k]? = some o) (x : Int) {j : Nat} (hj : j ≠ 7) : objS (growS s k o) x j = objS s x j := by
  rw [objS_grow ho]
  split
  · rename_i h; rw [objS_same ho x h, growO_ne hj]
  · rfl
theorem cdS_grow (ho : s.objs[k]? = some o) (x : Int) : cdS (growS s k o) x = cdS s x := by unfold cdS; rw [objS_ne ho x (by omega)]
theorem InS_grow (x : Int) : InS (growS s k o) x ↔ InS s x := by unfold InS growS; simp
theorem isB_grow (ho : s.objs[k]? = some o) (x : Int) : isB (growS s k o) x = isB s x := by
  unfold isB
  rw [objS_ne ho x (by omega), cdS_grow ho, decide_eq_decide.2 (InS_grow x)]
theorem grpB_grow (ho : s.objs[k]? = some o) (y : Int × ET) (x : Int) : grpB (growS s k o) y x = grpB s y x := by
  unfold grpB
  rw [objS_ne ho x (by omega), objS_ne ho y.1 (by omega)]
theorem statL_grow (ho : s.objs[k]? = some o) : ∀ l : List Int, statL (growS s k o) l = statL s l
  | [] => rfl
  | x :: l => by simp only [statL, cdS_grow ho, statL_grow ho l]
theorem statS_grow (ho : s.objs[k]? = some o) : statS (growS s k o) = statS s := statL_grow ho _
theorem becS_grow (ho : s.objs[k]? = some o) (x : Int) : becS (growS s k o) x = becS s x := by funext pt y; unfold becS; rw [grpB_grow ho]
theorem pumS_grow (ho : s.objs[k]? = some o) (x : Int) : pumS (growS s k o) x = pumS s x := by funext pt y; unfold pumS; rw [grpB_grow ho]
theorem wordS_grow (ho : s.objs[k]? = some o) (x : Int) : wordS (growS s k o) x = wordS s x := by funext pt y; unfold wordS; rw [grpB_grow ho]
theorem pum_shift (s : StT) (x d : Int) : ∀ (l : List (Int × ET)) (a b : Int), l.foldl (pumS s x) (a + d, b + d) = ((l.foldl (pumS s x) (a, b)).1 + d, (l.foldl (pumS s x) (a, b)).2 + d)
  | [], a, b => rfl
  | y :: l, a, b => by
    simp only [List.foldl_cons]
    have h : pumS s x (a + d, b + d) y = ((pumS s x (a, b) y).1 + d, (pumS s x (a, b) y).2 + d) := by
      unfold pumS
      split
      · simp only [Prod.mk.injEq]; omega
      · rfl
    rw [h, pum_shift s x d l]
/-- A shape, with a counter more on one object. -/
theorem ofS_grow (ho : s.objs[k]? = some o) (m : Nat) : ofS (growS s k o) (m : Int) = if m = k then ((ofS s (m : Int)).1 + 1, (ofS s (m : Int)).2.1 + 1, (ofS s (m : Int)).2.2) else ofS s (m : Int) := by
  unfold ofS
  rw [statS_grow ho, becS_grow ho, pumS_grow ho, wordS_grow ho, cdS_grow ho, objS_ne ho (m : Int) (j := 8) (by omega), objS_ne ho (m : Int) (j := 9) (by omega), objS_ne ho (m : Int) (j := 10) (by omega)]
  by_cases e : m = k
  · rw [if_pos e]
    have h7 : objS (growS s k o) (m : Int) 7 = objS s (m : Int) 7 + 1 := by
      rw [objS_grow ho, if_pos (by rw [Int.toNat_natCast]; exact e), growO_7, objS_same ho (m : Int) (by rw [Int.toNat_natCast]; exact e)]
    rw [h7, ← Int.add_assoc, ← Int.add_assoc, pum_shift]
    simp only [Prod.mk.injEq, and_true]
    omega
  · rw [if_neg e, objS_grow ho, if_neg (by rw [Int.toNat_natCast]; exact e)]
theorem ofE_grow (hs : chkS s = 0) (ht : chkS (growS s k o) = 0) (ho : s.objs[k]? = some o) (m : Int) : ofE (growS s k o) m = ofE s m := by
  unfold ofE
  rw [hs, ht, isB_grow ho]
theorem ofT_grow (hs : chkS s = 0) (ht : chkS (growS s k o) = 0) (ho : s.objs[k]? = some o) (hb : isB s (k : Int) = true) (m : Nat) : ofT (growS s k o) (m : Int) = if m = k then ((ofT s (m : Int)).1 + 1, (ofT s (m : Int)).2.1 + 1, (ofT s (m : Int)).2.2) else ofT s (m : Int) := by
  unfold ofT
  rw [ofE_grow hs ht ho, ofS_grow ho]
  by_cases e : m = k
  · subst e
    have he : ofE s (m : Int) = 0 := ofE_0.2 (by unfold isT; rw [hs, hb]; rfl)
    simp only [he, if_true]
  · rw [if_neg e, if_neg e]
theorem setO_grow (ho : s.objs[k]? = some o) : Go.Proofs.YtplfblccaeligaaDoor.setO s.objs k 7 (o 7 + 1) = (growS s k o).objs := by
  unfold setO growS growO
  rw [List.getD_eq_getElem?_getD, ho]; rfl
end
end Go.Proofs.YtplfblccaeligaaDoor
