/- Layer 13: the net by definition: a span's moves, then each field's first set with the last one's number. Plain facts. -/
import Derived.Test.YtncmfkmgaghklaaNtDef
namespace Go.Proofs.Ytncmfkmgaghklaa
open Go.RowKit Ex
set_option maxRecDepth 100000
/-- The last number that a field is set to. -/
def lastD (l : List EvT) (y : EvT) : Int := l.foldl (fun d e => if isSet e = true ∧ sameK y e = true then e.d else d) y.d
theorem lastD_snoc (l : List EvT) (y e : EvT) : lastD (l ++ [e]) y = if isSet e = true ∧ sameK y e = true then e.d else lastD l y := by
  unfold lastD; rw [List.foldl_append]; rfl
/-- Is the one at i the first of its field? -/
def firstK (l : List EvT) (e : EvT) : Bool := !(l.any fun y => isSet y && sameK y e)
/-- The first sets of the first i events, each with the last number in all. -/
def firsts (seg : List EvT) : List EvT → List EvT → List EvT
  | _, [] => []
  | pre, e :: r => (if isSet e = true ∧ firstK pre e = true then [{ e with d := lastD seg e }] else []) ++ firsts seg (pre ++ [e]) r
theorem firsts_snoc (seg : List EvT) : ∀ (l pre : List EvT) (e : EvT), firsts seg pre (l ++ [e]) = firsts seg pre l ++ (if isSet e = true ∧ firstK (pre ++ l) e = true then [{ e with d := lastD seg e }] else [])
  | [], pre, e => by simp [firsts]
  | x :: l, pre, e => by
    simp only [List.cons_append, firsts]
    rw [firsts_snoc seg l (pre ++ [x]) e, List.append_assoc, List.append_assoc, List.singleton_append]
/-- The span's moves. -/
def moves (l : List EvT) : List EvT := l.filter fun e => !isSet e
theorem spN_moves {l : List EvT} (h : ∀ e ∈ l, isCut e = false) : (foldN nt0 l).m = moves l := by
  induction l using snoc_ind with
  | h0 => rfl
  | h1 l e ih =>
    have ih := ih fun x hx => h x (List.mem_append_left _ hx)
    have hc := h e (by simp)
    rw [foldN_snoc]
    unfold stepN
    rw [if_neg (by simp [hc])]
    by_cases hs : isSet e = true
    · rw [if_pos hs]; simp only; rw [ih]; unfold moves; rw [List.filter_append]; simp [hs]
    · rw [if_neg hs]; simp only; rw [ih]; unfold moves; rw [List.filter_append]; simp [hs]
theorem lastD_key {l : List EvT} {y z : EvT} (h : sameK y z = true) (hd : y.d = z.d) : lastD l y = lastD l z := by
  unfold lastD
  rw [hd]
  congr 1
  funext d e
  rw [sameK_cong h]
theorem lastD_any {l : List EvT} {y : EvT} (h : (l.any fun e => isSet e && sameK y e) = true) (d : Int) : lastD l { y with d := d } = lastD l y := by
  induction l using snoc_ind with
  | h0 => cases h
  | h1 l e ih =>
    rw [lastD_snoc, lastD_snoc]
    rw [show sameK { y with d := d } e = sameK y e from rfl]
    by_cases hs : isSet e = true ∧ sameK y e = true
    · rw [if_pos hs, if_pos hs]
    · rw [if_neg hs, if_neg hs]
      refine ih ?_
      simp only [List.any_append, List.any_cons, List.any_nil, Bool.or_false, Bool.or_eq_true, Bool.and_eq_true] at h
      rcases h with h | h
      · exact h
      · exact absurd h hs
theorem ins_place : ∀ {f : List EvT} {x : EvT}, Apart f → (f.any fun y => sameK y x) = true → ∃ i y, f[i]? = some y ∧ sameK y x = true ∧ insE f x = f.set i { y with d := x.d }
  | [], x, _, h => by simp at h
  | z :: r, x, ha, h => by
    unfold Apart at ha
    rw [List.pairwise_cons] at ha
    simp only [insE]
    by_cases hk : sameK z x = true
    · exact ⟨0, z, rfl, hk, by rw [if_pos hk]; rfl⟩
    · rw [if_neg hk]
      have h' : (r.any fun y => sameK y x) = true := by
        simp only [List.any_cons, Bool.or_eq_true] at h
        exact h.resolve_left hk
      obtain ⟨i, y, h1, h2, h3⟩ := ins_place (f := r) ha.2 h'
      exact ⟨i + 1, y, h1, h2, by rw [h3]; rfl⟩
/-- What is so of a span's sets. -/
structure FsI (seg l : List EvT) (f : List EvT) : Prop where
  key : ∀ e, (f.any fun y => sameK y e) = (l.any fun y => isSet y && sameK y e)
  last : ∀ y ∈ f, y.d = lastD l y
  firsts : firsts seg [] l = f.map fun y => { y with d := lastD seg y }
  ap : Apart f
theorem any_ins (f : List EvT) (e x : EvT) : ((insE f e).any fun y => sameK y x) = ((f.any fun y => sameK y x) || sameK e x) := by
  induction f with
  | nil => simp [insE]
  | cons z r ih =>
    simp only [insE]
    split
    · rename_i hk
      simp only [List.any_cons]
      rw [show sameK { z with d := e.d } x = sameK z x from rfl, sameK_cong hk]
      cases sameK e x <;> simp
    · simp only [List.any_cons, ih, Bool.or_assoc]
theorem fsI {seg l : List EvT} (hsub : ∀ e ∈ l, e ∈ seg) (h : ∀ e ∈ l, isCut e = false) : FsI seg l (foldN nt0 l).f := by
  induction l using snoc_ind with
  | h0 => exact ⟨fun _ => rfl, fun y hy => (by cases hy), rfl, List.Pairwise.nil⟩
  | h1 l e ih =>
    have ih := ih (fun x hx => hsub x (List.mem_append_left _ hx)) fun x hx => h x (List.mem_append_left _ hx)
    have hc := h e (by simp)
    have hin : e ∈ seg := hsub e (by simp)
    rw [foldN_snoc]
    generalize foldN nt0 l = p at ih
    obtain ⟨o, m, f⟩ := p
    simp only at ih
    unfold stepN
    rw [if_neg (by simp [hc])]
    by_cases hs : isSet e = true
    case neg =>
      rw [if_neg hs]
      simp only
      have hsf : isSet e = false := by simpa using hs
      refine ⟨fun x => ?_, fun y hy => ?_, ?_, ih.ap⟩
      · rw [ih.key, List.any_append]; simp [hsf]
      · rw [lastD_snoc, if_neg (by simp [hsf])]; exact ih.last y hy
      · rw [firsts_snoc, if_neg (by simp [hsf]), List.append_nil]; exact ih.firsts
    case pos =>
      rw [if_pos hs]
      simp only
      have hkey : ∀ x, ((insE f e).any fun y => sameK y x) = ((l ++ [e]).any fun y => isSet y && sameK y x) := fun x => by
        rw [any_ins, ih.key, List.any_append]; simp [hs]
      have hany := ih.key e
      by_cases ha : (f.any fun y => sameK y e) = true
      · have hfk : firstK ([] ++ l) e = false := by unfold firstK; rw [List.nil_append, ← hany, ha]; rfl
        obtain ⟨i, y, h1, h2, h3⟩ := ins_place ih.ap ha
        have hil := (List.getElem?_eq_some_iff.1 h1).1
        refine ⟨hkey, fun z hz => ?_, ?_, ins_apart ih.ap⟩
        · rw [h3] at hz
          rw [lastD_snoc]
          obtain ⟨j, hj⟩ := List.mem_iff_getElem?.1 hz
          by_cases ej : i = j
          · subst ej
            rw [List.getElem?_set_self hil] at hj
            injection hj with hj
            subst hj
            rw [if_pos ⟨hs, h2⟩]
          · rw [List.getElem?_set_ne ej] at hj
            have hzf := List.mem_of_getElem? hj
            rw [if_neg, ih.last z hzf]
            rintro ⟨_, hk⟩
            have hap := ih.ap
            unfold Apart at hap
            have hne : sameK y z = false := by
              rw [List.pairwise_iff_getElem] at hap
              have hjl := (List.getElem?_eq_some_iff.1 hj).1
              have ey := (List.getElem?_eq_some_iff.1 h1).2
              have ez := (List.getElem?_eq_some_iff.1 hj).2
              rcases Nat.lt_or_gt_of_ne ej with hlt | hlt
              · have := hap i j hil hjl hlt
                rw [ey, ez] at this; exact this
              · have := hap j i hjl hil hlt
                rw [ey, ez, sameK_symm] at this; exact this
            rw [sameK_cong h2, sameK_symm, hk] at hne
            cases hne
        · rw [firsts_snoc, if_neg (fun h => by rw [hfk] at h; exact absurd h.2 (by simp)), List.append_nil, ih.firsts, h3]
          apply List.ext_getElem?
          intro j
          rw [List.getElem?_map, List.getElem?_map]
          by_cases ej : i = j
          · subst ej
            rw [List.getElem?_set_self hil, h1]
            simp only [Option.map_some]
            have : lastD seg { y with d := e.d } = lastD seg y := lastD_any (List.any_eq_true.2 ⟨e, hin, by simp [hs, h2]⟩) e.d
            rw [this]
          · rw [List.getElem?_set_ne ej]
      · have ha : (f.any fun y => sameK y e) = false := by simpa using ha
        have hfk : firstK ([] ++ l) e = true := by unfold firstK; rw [List.nil_append, ← hany, ha]; rfl
        have hno : ∀ y ∈ f, sameK y e = false := fun y hy => by simpa using List.any_eq_false.1 ha y hy
        have hins := ins_new hno
        refine ⟨hkey, fun z hz => ?_, ?_, ins_apart ih.ap⟩
        · rw [hins] at hz
          rw [lastD_snoc]
          rcases List.mem_append.1 hz with hz | hz
          · rw [if_neg (by rw [hno z hz]; simp)]; exact ih.last z hz
          · obtain rfl : z = e := by simpa using hz
            rw [if_pos ⟨hs, sameK_iff.2 ⟨rfl, rfl, rfl⟩⟩]
        · rw [firsts_snoc, if_pos ⟨hs, hfk⟩, ih.firsts, hins, List.map_append]; rfl
/-- The net of a span. -/
def oneL (seg : List EvT) : List EvT := moves seg ++ finE (firsts seg [] seg)
theorem one_spN {seg : List EvT} (h : ∀ e ∈ seg, isCut e = false) : oneL seg = (foldN nt0 seg).m ++ finE (foldN nt0 seg).f := by
  have hf := fsI (fun _ h => h) h
  unfold oneL
  rw [spN_moves h, hf.firsts]
  congr 2
  have : (foldN nt0 seg).f.map (fun y => { y with d := lastD seg y }) = (foldN nt0 seg).f.map id := List.map_congr_left fun y hy => by
    rw [← hf.last y hy]; rfl
  rw [this, List.map_id]
/-- A span behind others. -/
theorem foldN_span (o : List EvT) {seg : List EvT} (h : ∀ e ∈ seg, isCut e = false) : foldN ⟨o, [], []⟩ seg = ⟨o, (foldN nt0 seg).m, (foldN nt0 seg).f⟩ := by
  induction seg using snoc_ind with
  | h0 => rfl
  | h1 l e ih =>
    have ih := ih fun x hx => h x (List.mem_append_left _ hx)
    have hc := h e (by simp)
    rw [foldN_snoc, foldN_snoc, ih]
    have hc' : ¬ isCut e = true := by simp [hc]
    unfold stepN
    simp only [if_neg hc']
    by_cases hs : isSet e = true
    · simp only [if_pos hs]
    · simp only [if_neg hs]
/-- How far the net is: what came out of the first ones, a span behind them. -/
structure NtK (l : List EvT) (k fr : Nat) (o : List EvT) : Prop where
  le : fr ≤ k
  o : foldN nt0 (l.take fr) = ⟨o, [], []⟩
  c : ∀ e ∈ (l.take k).drop fr, isCut e = false
theorem NtK.start (l : List EvT) : NtK l 0 0 [] := ⟨Nat.le_refl _, rfl, fun e he => (by simp at he)⟩
theorem NtK.fold {l : List EvT} {k fr : Nat} {o : List EvT} (h : NtK l k fr o) : foldN nt0 (l.take k) = ⟨o, (foldN nt0 ((l.take k).drop fr)).m, (foldN nt0 ((l.take k).drop fr)).f⟩ := by
  have e : l.take k = l.take fr ++ (l.take k).drop fr := by
    have := (List.take_append_drop fr (l.take k)).symm
    rw [List.take_take, Nat.min_eq_left h.le] at this
    exact this
  rw [e, foldN_app, h.o]
  have h2 := foldN_span o h.c
  rw [← e]
  exact h2
theorem NtK.net {l : List EvT} {k fr : Nat} {o : List EvT} (h : NtK l k fr o) : netL (l.take k) = o ++ oneL ((l.take k).drop fr) := by
  unfold netL
  rw [h.fold, one_spN h.c]
  unfold outN
  rw [List.append_assoc]
theorem NtK.more {l : List EvT} {k fr : Nat} {o : List EvT} {e : EvT} (h : NtK l k fr o) (he : l[k]? = some e) (hc : isCut e = false) : NtK l (k + 1) fr o := by
  refine ⟨Nat.le_succ_of_le h.le, h.o, fun x hx => ?_⟩
  have hk := (List.getElem?_eq_some_iff.1 he).1
  rw [List.take_add_one, he, List.drop_append_of_le_length (by rw [List.length_take]; have := h.le; omega)] at hx
  rcases List.mem_append.1 hx with hx | hx
  · exact h.c x hx
  · obtain rfl : x = e := by simpa using hx
    exact hc
theorem NtK.cut {l : List EvT} {k fr : Nat} {o : List EvT} {e : EvT} (h : NtK l k fr o) (he : l[k]? = some e) (hc : isCut e = true) : NtK l (k + 1) (k + 1) (o ++ oneL ((l.take k).drop fr) ++ [e]) := by
  have hk := (List.getElem?_eq_some_iff.1 he).1
  refine ⟨Nat.le_refl _, ?_, fun x hx => ?_⟩
  · have : l.take (k + 1) = l.take k ++ [e] := by rw [List.take_add_one, he]; rfl
    rw [this, foldN_snoc, h.fold]
    unfold stepN
    rw [if_pos hc, one_spN h.c]
    simp only [List.append_assoc]
  · rw [List.drop_eq_nil_of_le (by rw [List.length_take]; omega)] at hx
    cases hx
end Go.Proofs.Ytncmfkmgaghklaa
