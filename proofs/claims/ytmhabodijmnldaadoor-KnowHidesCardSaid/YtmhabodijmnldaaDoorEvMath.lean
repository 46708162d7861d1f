/- Layer 12: events as plain data, and what they do: plain facts. -/
import Derived.Test.YtmhabodijmnldaaDoorEvT
import Derived.Test.YtmhabodijmnldaaDoorStSame
import Derived.Test.YtmhabodijmnldaaDoorStPl
import Derived.Test.YtmhabodijmnldaaDoorLstMath
namespace Go.Proofs.YtmhabodijmnldaaDoor
open Go.RowKit Ex
/-- An object that is made. -/
def madeO (a b c : Int) : Nat → Int := fun i => if i = 0 then a else if i = 1 ∨ i = 2 then b else if i = 3 then 10 else if i = 13 then c else if i = 17 then 3 else 0
def updL (L : Nat → List Int) (z : Nat) (l : List Int) : Nat → List Int := fun i => if i = z then l else L i
theorem updL_at (L : Nat → List Int) (z : Nat) (l : List Int) : updL L z l z = l := if_pos rfl
theorem updL_ne (L : Nat → List Int) {z y : Nat} (h : y ≠ z) (l : List Int) : updL L z l y = L y := if_neg h
def setO (os : List (Nat → Int)) (i j : Nat) (x : Int) : List (Nat → Int) := os.set i (updI (os.getD i fun _ => 0) j x)
theorem setO_len (os : List (Nat → Int)) (i j : Nat) (x : Int) : (setO os i j x).length = os.length := List.length_set
theorem setO_at {os : List (Nat → Int)} {i j : Nat} {x : Int} (h : i < os.length) : (setO os i j x).getD i (fun _ => 0) = updI (os.getD i fun _ => 0) j x := by
  unfold setO
  rw [List.getD_eq_getElem?_getD, List.getElem?_set_self h, Option.getD_some]
def ap0 (s : StT) (e : EvT) : StT × Int :=
  if 400 ≤ s.objs.length then (sT0, 5) else (⟨s.objs ++ [madeO e.a e.b e.c], updL s.lists 10 (s.lists 10 ++ [(s.objs.length : Int)]), s.pl, s.gm⟩, 0)
def ap5 (s : StT) (e : EvT) : StT × Int :=
  if s.objs.length = 0 ∨ (s.lists 10).length = 0 ∨ (s.lists 10).getD ((s.lists 10).length - 1) 0 ≠ (s.objs.length : Int) - 1 ∨ sameI 18 (s.objs.getD (s.objs.length - 1) fun _ => 0) (madeO e.a e.b e.c) = false then (sT0, 20)
  else (⟨s.objs.take (s.objs.length - 1), updL s.lists 10 ((s.lists 10).take ((s.lists 10).length - 1)), s.pl, s.gm⟩, 0)
/-- The lists, of which a number was taken. -/
def mv1 (s : StT) (e : EvT) : Nat → List Int := updL s.lists e.b.toNat (rmL (s.lists e.b.toNat) e.c.toNat)
def ap1 (s : StT) (e : EvT) : StT × Int :=
  if (s.objs.length : Int) ≤ e.a then (sT0, 4)
  else if ((s.lists e.b.toNat).length : Int) ≤ e.c ∨ (s.lists e.b.toNat).getD e.c.toNat 0 ≠ e.a then (sT0, 20)
  else if ((mv1 s e e.d.toNat).length : Int) < e.e then (sT0, 1)
  else (⟨setO s.objs e.a.toNat 3 e.d, updL (mv1 s e) e.d.toNat (insL (mv1 s e e.d.toNat) e.e.toNat e.a), s.pl, s.gm⟩, 0)
def ap2 (s : StT) (e : EvT) : StT × Int :=
  if (s.objs.length : Int) ≤ e.a then (sT0, 4)
  else if (s.objs.getD e.a.toNat fun _ => 0) e.b.toNat ≠ e.c then (sT0, 20)
  else (⟨setO s.objs e.a.toNat e.b.toNat e.d, s.lists, s.pl, s.gm⟩, 0)
def ap3 (s : StT) (e : EvT) : StT × Int :=
  if s.pl (e.a.toNat * 9 + e.b.toNat) ≠ e.c then (sT0, 20) else (⟨s.objs, s.lists, updI s.pl (e.a.toNat * 9 + e.b.toNat) e.d, s.gm⟩, 0)
def ap4 (s : StT) (e : EvT) : StT × Int :=
  if s.gm e.b.toNat ≠ e.c then (sT0, 20) else (⟨s.objs, s.lists, s.pl, updI s.gm e.b.toNat e.d⟩, 0)
/-- The state behind an event; an error's number. -/
def applyS (s : StT) (e : EvT) : StT × Int :=
  if chkE e ≠ 0 then (sT0, chkE e) else if e.k = 0 then ap0 s e else if e.k = 1 then ap1 s e else if e.k = 2 then ap2 s e else if e.k = 3 then ap3 s e else if e.k = 4 then ap4 s e else ap5 s e
/-- What was changed is as it was, but for a moved object's zone. -/
def backS (s u : StT) (e : EvT) : StT := if e.k = 1 then { u with objs := setO u.objs e.a.toNat 3 ((s.objs.getD e.a.toNat fun _ => 0) 3) } else u
theorem sameS_of {a b : StT} (h1 : a.objs.length = b.objs.length) (h2 : ∀ k (x : k < a.objs.length) (y : k < b.objs.length), ∀ i, i < 18 → a.objs[k] i = b.objs[k] i) (h3 : ∀ z, z < 11 → a.lists z = b.lists z) (h4 : ∀ i, i < 18 → a.pl i = b.pl i) (h5 : ∀ i, i < 7 → a.gm i = b.gm i) : sameS a b = true := by
  unfold sameS
  rw [sameL_good h3, sameOL_iff.2 ⟨h1, fun k x y => sameI_iff.2 (h2 k x y)⟩, sameI_iff.2 h4, sameI_iff.2 h5]; rfl
theorem getD_in {α : Type} (l : List α) {i : Nat} (h : i < l.length) (d : α) : l.getD i d = l[i] := by rw [List.getD_eq_getElem?_getD, List.getElem?_eq_getElem h, Option.getD_some]
theorem take_last {l : List Int} {x : Int} (h : l.length ≠ 0) (hx : l.getD (l.length - 1) 0 = x) : l.take (l.length - 1) ++ [x] = l := by
  rw [getD_in l (by omega)] at hx
  have := List.take_succ_eq_append_getElem (l := l) (i := l.length - 1) (by omega)
  rw [hx, show l.length - 1 + 1 = l.length by omega, List.take_length] at this
  exact this.symm
theorem back0 {s t : StT} {e f : EvT} (he : f.a = e.a ∧ f.b = e.b ∧ f.c = e.c) (h : ap0 s e = (t, 0)) : ∃ u, ap5 t f = (u, 0) ∧ sameS u s = true ∧ u.objs.length = s.objs.length := by
  obtain ⟨h1, h2, h3⟩ := he
  unfold ap0 at h
  split at h
  · have := congrArg Prod.snd h; simp at this
  · obtain rfl := congrArg Prod.fst h
    clear h
    unfold ap5
    simp only [List.length_append, List.length_singleton, updL_at, Nat.add_sub_cancel]
    rw [if_neg]
    · refine ⟨_, rfl, ?_, by simp⟩
      refine sameS_of (by simp) (fun k x y i hi => by simp; rw [List.getElem_append_left y]) (fun z hz => ?_) (fun _ _ => rfl) (fun _ _ => rfl)
      by_cases e : z = 10
      · subst e; simp [updL_at]
      · simp [updL_ne _ e]
    · rw [h1, h2, h3]
      have e1 : (s.lists 10 ++ [(s.objs.length : Int)]).getD (s.lists 10).length 0 = (s.objs.length : Int) := by
        rw [List.getD_eq_getElem?_getD, List.getElem?_append_right (Nat.le_refl _)]; simp
      have e2 : (s.objs ++ [madeO e.a e.b e.c]).getD s.objs.length (fun _ => 0) = madeO e.a e.b e.c := by
        rw [List.getD_eq_getElem?_getD, List.getElem?_append_right (Nat.le_refl _)]; simp
      rw [e1, e2, sameI_refl]
      rintro (h | h | h | h)
      · omega
      · omega
      · apply h; push_cast; omega
      · cases h
theorem back5 {s t : StT} {e f : EvT} (hn : s.objs.length ≤ 400) (he : f.a = e.a ∧ f.b = e.b ∧ f.c = e.c) (h : ap5 s e = (t, 0)) : ∃ u, ap0 t f = (u, 0) ∧ sameS u s = true ∧ u.objs.length = s.objs.length := by
  obtain ⟨h1, h2, h3⟩ := he
  unfold ap5 at h
  split at h
  · have := congrArg Prod.snd h; simp at this
  · rename_i hno
    obtain rfl := congrArg Prod.fst h
    clear h
    have g1 : s.objs.length ≠ 0 := fun h => hno (.inl h)
    have g2 : (s.lists 10).length ≠ 0 := fun h => hno (.inr (.inl h))
    have g3 : (s.lists 10).getD ((s.lists 10).length - 1) 0 = (s.objs.length : Int) - 1 := Classical.byContradiction fun h => hno (.inr (.inr (.inl h)))
    have g4 : sameI 18 (s.objs.getD (s.objs.length - 1) fun _ => 0) (madeO e.a e.b e.c) = true := by
      cases hb : sameI 18 (s.objs.getD (s.objs.length - 1) fun _ => 0) (madeO e.a e.b e.c)
      · exact absurd (.inr (.inr (.inr hb))) hno
      · rfl
    clear hno
    unfold ap0
    simp only [List.length_take, Nat.min_eq_left (Nat.sub_le _ _), updL_at]
    rw [if_neg (by omega), h1, h2, h3]
    refine ⟨_, rfl, ?_, by simp; omega⟩
    refine sameS_of (by simp; omega) (fun k x y i hi => ?_) (fun z hz => ?_) (fun _ _ => rfl) (fun _ _ => rfl)
    · simp only
      by_cases hk : k < s.objs.length - 1
      · rw [List.getElem_append_left (by simp; omega), List.getElem_take]
      · have hk2 : k = s.objs.length - 1 := by omega
        subst hk2
        rw [List.getElem_append_right (by simp)]
        rw [getD_in _ (by omega)] at g4
        have := sameI_iff.1 g4 i hi
        simp only [List.getElem_singleton]
        exact this.symm
    · by_cases e : z = 10
      · subst e
        simp only [updL_at]
        refine take_last g2 ?_
        rw [g3]; omega
      · simp [updL_ne _ e]
theorem sameO_set {os : List (Nat → Int)} {i : Nat} (hi : i < os.length) {x y : Int} {j : Nat} (h : (os.getD i fun _ => 0) j = y) : ∀ k (p : k < (setO (setO os i j x) i j y).length) (q : k < os.length), ∀ n, n < 18 → (setO (setO os i j x) i j y)[k] n = os[k] n := by
  intro k p q n _
  have e1 : setO (setO os i j x) i j y = os.set i (updI (updI (os.getD i fun _ => 0) j x) j y) := by
    rw [setO, setO_at hi, setO, List.set_set]
  rw [List.getElem_of_eq e1, List.getElem_set]
  by_cases e : i = k
  · subst e
    rw [if_pos rfl]
    rw [getD_in _ hi] at h ⊢
    unfold updI
    by_cases e : n = j
    · subst e; rw [if_pos rfl]; exact h.symm
    · rw [if_neg e, if_neg e]
  · rw [if_neg e]
theorem back2 {s t : StT} {e f : EvT} (ha : 0 ≤ e.a) (he : f.a = e.a ∧ f.b = e.b ∧ f.c = e.d ∧ f.d = e.c) (h : ap2 s e = (t, 0)) : ∃ u, ap2 t f = (u, 0) ∧ sameS u s = true ∧ u.objs.length = s.objs.length := by
  obtain ⟨h1, h2, h3, h4⟩ := he
  unfold ap2 at h
  split at h
  · have := congrArg Prod.snd h; simp at this
  rename_i n1
  split at h
  · have := congrArg Prod.snd h; simp at this
  rename_i n2
  obtain rfl := congrArg Prod.fst h
  clear h
  have hlt : e.a.toNat < s.objs.length := by omega
  unfold ap2
  simp only [setO_len, h1, h2, h3, h4, setO_at hlt]
  rw [if_neg n1, if_neg (by simp [updI])]
  refine ⟨_, rfl, ?_, by simp [setO_len]⟩
  exact sameS_of (by simp [setO_len]) (sameO_set hlt (Classical.byContradiction n2)) (fun _ _ => rfl) (fun _ _ => rfl) (fun _ _ => rfl)
theorem upd_back (f : Nat → Int) (i : Nat) (x : Int) : updI (updI f i x) i (f i) = f := by
  funext j; unfold updI; by_cases e : j = i
  · subst e; rw [if_pos rfl]
  · rw [if_neg e, if_neg e]
theorem back3 {s t : StT} {e f : EvT} (he : f.a = e.a ∧ f.b = e.b ∧ f.c = e.d ∧ f.d = e.c) (h : ap3 s e = (t, 0)) : ∃ u, ap3 t f = (u, 0) ∧ sameS u s = true ∧ u.objs.length = s.objs.length := by
  obtain ⟨h1, h2, h3, h4⟩ := he
  unfold ap3 at h
  split at h
  · have := congrArg Prod.snd h; simp at this
  rename_i n2
  obtain rfl := congrArg Prod.fst h
  clear h
  have n3 := Classical.byContradiction n2
  unfold ap3
  simp only [h1, h2, h3, h4]
  rw [if_neg (by simp [updI])]
  refine ⟨_, rfl, ?_, rfl⟩
  rw [← n3, upd_back]
  exact sameS_refl s
theorem back4 {s t : StT} {e f : EvT} (he : f.b = e.b ∧ f.c = e.d ∧ f.d = e.c) (h : ap4 s e = (t, 0)) : ∃ u, ap4 t f = (u, 0) ∧ sameS u s = true ∧ u.objs.length = s.objs.length := by
  obtain ⟨h2, h3, h4⟩ := he
  unfold ap4 at h
  split at h
  · have := congrArg Prod.snd h; simp at this
  rename_i n2
  obtain rfl := congrArg Prod.fst h
  clear h
  have n3 := Classical.byContradiction n2
  unfold ap4
  simp only [h2, h3, h4]
  rw [if_neg (by simp [updI])]
  refine ⟨_, rfl, ?_, rfl⟩
  rw [← n3, upd_back]
  exact sameS_refl s
theorem back1 {s t : StT} {e f : EvT} (ha : 0 ≤ e.a) (hc : 0 ≤ e.c) (he : f.a = e.a ∧ f.b = e.d ∧ f.c = e.e ∧ f.d = e.b ∧ f.e = e.c) (h : ap1 s e = (t, 0)) :
    ∃ u, ap1 t f = (u, 0) ∧ sameS { u with objs := setO u.objs e.a.toNat 3 ((s.objs.getD e.a.toNat fun _ => 0) 3) } s = true ∧ u.objs.length = s.objs.length ∧ e.a.toNat < s.objs.length := by
  obtain ⟨h1, h2, h3, h4, h5⟩ := he
  unfold ap1 at h
  split at h
  · have := congrArg Prod.snd h; simp at this
  rename_i n1
  split at h
  · have := congrArg Prod.snd h; simp at this
  rename_i n2
  split at h
  · have := congrArg Prod.snd h; simp at this
  rename_i n3
  obtain rfl := congrArg Prod.fst h
  clear h
  have hlt : e.a.toNat < s.objs.length := by omega
  have g1 : e.c.toNat < (s.lists e.b.toNat).length := by
    have : ¬ ((s.lists e.b.toNat).length : Int) ≤ e.c := fun h => n2 (.inl h)
    omega
  have g2 : (s.lists e.b.toNat).getD e.c.toNat 0 = e.a := Classical.byContradiction fun h => n2 (.inr h)
  have g3 : e.e.toNat ≤ (mv1 s e e.d.toNat).length := by omega
  have hgt : (insL (mv1 s e e.d.toNat) e.e.toNat e.a).getD e.e.toNat 0 = e.a := by
    have := ins_at (mv1 s e e.d.toNat) e.e.toNat e.a g3
    rw [List.getD_eq_getElem?_getD, this, Option.getD_some]
  have hln := ins_len (mv1 s e e.d.toNat) e.e.toNat e.a g3
  have hm1 : ∀ z, mv1 ⟨setO s.objs e.a.toNat 3 e.d, updL (mv1 s e) e.d.toNat (insL (mv1 s e e.d.toNat) e.e.toNat e.a), s.pl, s.gm⟩ f z = mv1 s e z := by
    intro z
    show updL _ f.b.toNat (rmL _ f.c.toNat) z = _
    rw [h2, h3]
    simp only
    by_cases ez : z = e.d.toNat
    · subst ez; rw [updL_at, updL_at, rm_ins _ _ _ g3]
    · rw [updL_ne _ ez, updL_ne _ ez]
  unfold ap1
  simp only [setO_len]
  rw [h1, if_neg n1, h2, h3, h4, h5]
  rw [updL_at, if_neg (by rintro (h | h)
                          · omega
                          · exact h hgt), hm1, if_neg (by
    show ¬ ((mv1 s e e.b.toNat).length : Int) < e.c
    rw [show mv1 s e e.b.toNat = rmL (s.lists e.b.toNat) e.c.toNat from updL_at _ _ _, rm_len _ _ g1]; omega)]
  refine ⟨_, rfl, ?_, by simp [setO_len], hlt⟩
  refine sameS_of (by simp [setO_len]) ?_ (fun z hz => ?_) (fun _ _ => rfl) (fun _ _ => rfl)
  · intro k x y i hi
    simp only
    have e1 : setO (setO (setO s.objs e.a.toNat 3 e.d) e.a.toNat 3 e.b) e.a.toNat 3 ((s.objs.getD e.a.toNat fun _ => 0) 3) = setO (setO s.objs e.a.toNat 3 e.d) e.a.toNat 3 ((s.objs.getD e.a.toNat fun _ => 0) 3) := by
      have hl2 : e.a.toNat < (setO s.objs e.a.toNat 3 e.d).length := by rw [setO_len]; exact hlt
      rw [setO, setO_at hl2, setO, List.set_set, setO]
      congr 1
      funext j; unfold updI; by_cases ej : j = 3
      · rw [if_pos ej, if_pos ej]
      · rw [if_neg ej, if_neg ej, if_neg ej]
    have h9 := sameO_set (x := e.d) (y := (s.objs.getD e.a.toNat fun _ => 0) 3) (j := 3) hlt rfl k (by simp [setO_len]; exact y) y i hi
    rw [List.getElem_of_eq e1]
    exact h9
  · show updL _ _ _ z = _
    by_cases ez : z = e.b.toNat
    · subst ez
      rw [updL_at]
      show insL (mv1 s e e.b.toNat) e.c.toNat e.a = _
      rw [show mv1 s e e.b.toNat = rmL (s.lists e.b.toNat) e.c.toNat from updL_at _ _ _, ← g2]
      exact ins_rm _ _ g1
    · rw [updL_ne _ ez, hm1]
      exact updL_ne _ ez _
theorem apply_back {s t : StT} {e : EvT} (hn : s.objs.length ≤ 400) (h : applyS s e = (t, 0)) (hi : chkE (invE e) = 0) :
    ∃ u, applyS t (invE e) = (u, 0) ∧ sameS (backS s u e) s = true ∧ u.objs.length = s.objs.length ∧ (e.k = 1 → 0 ≤ e.a ∧ e.a.toNat < s.objs.length) := by
  unfold applyS at h
  by_cases hc : chkE e ≠ 0
  · rw [if_pos hc] at h
    have := congrArg Prod.snd h
    exact absurd this hc
  have hc0 : chkE e = 0 := by omega
  rw [if_neg hc] at h
  have hap : ∀ u, applyS t u = if chkE u ≠ 0 then (sT0, chkE u) else if u.k = 0 then ap0 t u else if u.k = 1 then ap1 t u else if u.k = 2 then ap2 t u else if u.k = 3 then ap3 t u else if u.k = 4 then ap4 t u else ap5 t u := fun _ => rfl
  rw [hap, if_neg (by omega)]
  clear hap
  obtain ⟨k, a, b, c, d, f⟩ := e
  rcases chkE_kind hc0 with ⟨hk, h1⟩ | ⟨hk, h1⟩ | ⟨hk, h1⟩ | ⟨hk, h1⟩ | ⟨hk, h1⟩ | ⟨hk, h1⟩
  all_goals simp only at hk h1 h
  all_goals subst hk
  all_goals simp only [Int.reduceEq, if_true, if_false] at h
  · obtain ⟨u, h2, h3, h4⟩ := back0 (e := ⟨0, a, b, c, d, f⟩) (f := ⟨5, a, b, c, d, f⟩) ⟨rfl, rfl, rfl⟩ h
    exact ⟨u, h2, h3, h4, fun h => by cases h⟩
  · obtain ⟨u, h2, h3, h4⟩ := back5 (e := ⟨5, a, b, c, d, f⟩) (f := ⟨0, a, b, c, d, f⟩) hn ⟨rfl, rfl, rfl⟩ h
    exact ⟨u, h2, h3, h4, fun h => by cases h⟩
  · obtain ⟨u, h2, h3, h4, h5⟩ := back1 (e := ⟨1, a, b, c, d, f⟩) (f := ⟨1, a, d, f, b, c⟩) (by simp only; omega) (by simp only; omega) ⟨rfl, rfl, rfl, rfl, rfl⟩ h
    exact ⟨u, h2, h3, h4, fun _ => ⟨h1.1, h5⟩⟩
  · obtain ⟨u, h2, h3, h4⟩ := back2 (e := ⟨2, a, b, c, d, f⟩) (f := ⟨2, a, b, d, c, f⟩) (by simp only; omega) ⟨rfl, rfl, rfl, rfl⟩ h
    exact ⟨u, h2, h3, h4, fun h => by cases h⟩
  · obtain ⟨u, h2, h3, h4⟩ := back3 (e := ⟨3, a, b, c, d, f⟩) (f := ⟨3, a, b, d, c, f⟩) ⟨rfl, rfl, rfl, rfl⟩ h
    exact ⟨u, h2, h3, h4, fun h => by cases h⟩
  · obtain ⟨u, h2, h3, h4⟩ := back4 (e := ⟨4, a, b, c, d, f⟩) (f := ⟨4, a, b, d, c, f⟩) ⟨rfl, rfl, rfl⟩ h
    exact ⟨u, h2, h3, h4, fun h => by cases h⟩
end Go.Proofs.YtmhabodijmnldaaDoor
