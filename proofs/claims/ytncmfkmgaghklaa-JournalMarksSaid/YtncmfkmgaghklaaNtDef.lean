/- Layer 13: the net of events: plain facts. -/
import Derived.Test.YtncmfkmgaghklaaEvT
namespace Go.Proofs.Ytncmfkmgaghklaa
open Go.RowKit Ex
set_option maxRecDepth 100000
def invL (l : List EvT) : List EvT := (l.map invE).reverse
theorem invL_len (l : List EvT) : (invL l).length = l.length := by simp [invL]
/-- Does an event make, or unmake; does it set a field; do two set the same. -/
def isCut (e : EvT) : Bool := decide (e.k = 0) || decide (e.k = 5)
def isSet (e : EvT) : Bool := decide (2 ≤ e.k) && decide (e.k ≤ 4)
def sameK (x e : EvT) : Bool := decide (x.k = e.k) && decide (x.a = e.a) && decide (x.b = e.b)
theorem isCut_iff {e : EvT} : isCut e = true ↔ e.k = 0 ∨ e.k = 5 := by simp [isCut]
theorem isSet_iff {e : EvT} : isSet e = true ↔ 2 ≤ e.k ∧ e.k ≤ 4 := by simp [isSet]
theorem sameK_iff {x e : EvT} : sameK x e = true ↔ x.k = e.k ∧ x.a = e.a ∧ x.b = e.b := by simp [sameK, and_assoc]
theorem set_kinds {x : EvT} (h : isSet x = true) : x.k = 2 ∨ x.k = 3 ∨ x.k = 4 := by
  rw [isSet_iff] at h; omega
/-- A set laid to the sets of a span. -/
def insE : List EvT → EvT → List EvT
  | [], e => [e]
  | x :: r, e => if sameK x e = true then { x with d := e.d } :: r else x :: insE r e
def finE (f : List EvT) : List EvT := f.filter fun e => decide (e.c ≠ e.d)
def Apart (f : List EvT) : Prop := f.Pairwise fun x y => sameK x y = false
theorem sameK_cong {x y e : EvT} (h : sameK x y = true) : sameK x e = sameK y e := by
  obtain ⟨a, b, c⟩ := sameK_iff.1 h
  unfold sameK; rw [a, b, c]
theorem sameK_symm {x y : EvT} : sameK x y = sameK y x := by
  rw [Bool.eq_iff_iff, sameK_iff, sameK_iff]
  exact ⟨fun ⟨a, b, c⟩ => ⟨a.symm, b.symm, c.symm⟩, fun ⟨a, b, c⟩ => ⟨a.symm, b.symm, c.symm⟩⟩
theorem ins_key {f : List EvT} {e y : EvT} (hy : y ∈ insE f e) : (∃ x ∈ f, sameK x y = true) ∨ y = e := by
  induction f with
  | nil => simp [insE] at hy; exact .inr hy
  | cons x r ih =>
    simp only [insE] at hy
    split at hy
    · rcases List.mem_cons.1 hy with rfl | h
      · exact .inl ⟨x, List.mem_cons_self .., by rw [sameK_iff]; exact ⟨rfl, rfl, rfl⟩⟩
      · exact .inl ⟨y, List.mem_cons_of_mem _ h, by rw [sameK_iff]; exact ⟨rfl, rfl, rfl⟩⟩
    · rcases List.mem_cons.1 hy with rfl | h
      · exact .inl ⟨y, List.mem_cons_self .., by rw [sameK_iff]; exact ⟨rfl, rfl, rfl⟩⟩
      · rcases ih h with ⟨z, hz, hk⟩ | h
        · exact .inl ⟨z, List.mem_cons_of_mem _ hz, hk⟩
        · exact .inr h
theorem ins_apart {f : List EvT} {e : EvT} (h : Apart f) : Apart (insE f e) := by
  unfold Apart at h ⊢
  induction f with
  | nil => simp [insE]
  | cons x r ih =>
    rw [List.pairwise_cons] at h
    simp only [insE]
    split
    · rename_i hk
      rw [List.pairwise_cons]
      exact ⟨fun y hy => by rw [show sameK { x with d := e.d } y = sameK x y from rfl]; exact h.1 y hy, h.2⟩
    · rename_i hk
      rw [List.pairwise_cons]
      refine ⟨fun y hy => ?_, ih h.2⟩
      rcases ins_key hy with ⟨z, hz, hzk⟩ | rfl
      · rw [sameK_symm, ← sameK_cong hzk, sameK_symm]; exact h.1 z hz
      · simpa using hk
theorem ins_sets {f : List EvT} {e : EvT} (hf : ∀ x ∈ f, isSet x = true) (he : isSet e = true) : ∀ x ∈ insE f e, isSet x = true := by
  intro y hy
  rcases ins_key hy with ⟨z, hz, hzk⟩ | rfl
  · have := hf z hz
    rw [isSet_iff] at this ⊢
    rw [← (sameK_iff.1 hzk).1]; exact this
  · exact he
theorem insE_len (f : List EvT) (e : EvT) : (insE f e).length ≤ f.length + 1 := by
  induction f with
  | nil => simp [insE]
  | cons x r ih =>
    simp only [insE]
    split
    · simp
    · simp only [List.length_cons]; omega
theorem ins_new {f : List EvT} {e : EvT} (h : ∀ x ∈ f, sameK x e = false) : insE f e = f ++ [e] := by
  induction f with
  | nil => rfl
  | cons x r ih =>
    simp only [insE]
    rw [if_neg (by rw [h x (List.mem_cons_self ..)]; simp), ih fun y hy => h y (List.mem_cons_of_mem _ hy)]
    rfl
theorem fin_fin (f : List EvT) : finE (finE f) = finE f := by unfold finE; rw [List.filter_filter]; congr 1; funext e; simp
theorem fin_mem {f : List EvT} {x : EvT} (h : x ∈ finE f) : x ∈ f := (List.mem_filter.1 h).1
theorem fin_len (f : List EvT) : (finE f).length ≤ f.length := List.length_filter_le ..
theorem fin_apart {f : List EvT} (h : Apart f) : Apart (finE f) := by unfold Apart finE at *; exact h.filter _
namespace Ex
/-- What stands behind the last cut: what came out, moves, sets. -/
structure NtT where
  o : List EvT
  m : List EvT
  f : List EvT
end Ex
def stepN (p : NtT) (e : EvT) : NtT :=
  if isCut e = true then ⟨p.o ++ p.m ++ finE p.f ++ [e], [], []⟩ else if isSet e = true then ⟨p.o, p.m, insE p.f e⟩ else ⟨p.o, p.m ++ [e], p.f⟩
def foldN (p : NtT) (l : List EvT) : NtT := l.foldl stepN p
def nt0 : NtT := ⟨[], [], []⟩
def outN (p : NtT) : List EvT := p.o ++ p.m ++ finE p.f
/-- The net. -/
def netL (l : List EvT) : List EvT := outN (foldN nt0 l)
theorem foldN_app (p : NtT) (a b : List EvT) : foldN p (a ++ b) = foldN (foldN p a) b := List.foldl_append ..
theorem foldN_snoc (p : NtT) (l : List EvT) (e : EvT) : foldN p (l ++ [e]) = stepN (foldN p l) e := by rw [foldN_app]; rfl
theorem foldN_moves : ∀ (m : List EvT) (o m0 f0 : List EvT), (∀ x ∈ m, isCut x = false ∧ isSet x = false) → foldN ⟨o, m0, f0⟩ m = ⟨o, m0 ++ m, f0⟩
  | [], o, m0, f0, _ => by rw [List.append_nil]; rfl
  | x :: m, o, m0, f0, h => by
    obtain ⟨h1, h2⟩ := h x (List.mem_cons_self ..)
    show foldN (stepN ⟨o, m0, f0⟩ x) m = _
    have : stepN ⟨o, m0, f0⟩ x = ⟨o, m0 ++ [x], f0⟩ := by unfold stepN; rw [if_neg (by simp [h1]), if_neg (by simp [h2])]
    rw [this, foldN_moves m o _ f0 fun y hy => h y (List.mem_cons_of_mem _ hy), List.append_assoc]; rfl
theorem set_cut {e : EvT} (h : isSet e = true) : isCut e = false := by
  cases hc : isCut e
  · rfl
  · rw [isSet_iff] at h; rw [isCut_iff] at hc; omega
theorem foldN_sets : ∀ (f : List EvT) (o m f0 : List EvT), (∀ x ∈ f, isSet x = true) → Apart (f0 ++ f) → foldN ⟨o, m, f0⟩ f = ⟨o, m, f0 ++ f⟩
  | [], o, m, f0, _, _ => by rw [List.append_nil]; rfl
  | x :: f, o, m, f0, h, ha => by
    have hx := h x (List.mem_cons_self ..)
    have hn : ∀ y ∈ f0, sameK y x = false := fun y hy => (List.pairwise_append.1 ha).2.2 y hy x (List.mem_cons_self ..)
    show foldN (stepN ⟨o, m, f0⟩ x) f = _
    have : stepN ⟨o, m, f0⟩ x = ⟨o, m, f0 ++ [x]⟩ := by unfold stepN; rw [if_neg (by rw [set_cut hx]; simp), if_pos hx]; simp only; rw [ins_new hn]
    have e : f0 ++ [x] ++ f = f0 ++ x :: f := by rw [List.append_assoc]; rfl
    rw [this, foldN_sets f o m _ (fun y hy => h y (List.mem_cons_of_mem _ hy)) (by rw [e]; exact ha), e]
/-- What is so of every fold. -/
structure NtI (l : List EvT) (p : NtT) : Prop where
  m : ∀ x ∈ p.m, isCut x = false ∧ isSet x = false
  f : ∀ x ∈ p.f, isSet x = true
  a : Apart p.f
  o : foldN nt0 p.o = ⟨p.o, [], []⟩
  n : p.o.length + p.m.length + p.f.length ≤ l.length
theorem NtI.out {l : List EvT} {p : NtT} (h : NtI l p) : foldN nt0 (outN p) = ⟨p.o, p.m, finE p.f⟩ := by
  unfold outN
  rw [foldN_app, foldN_app, h.o, foldN_moves _ _ _ _ h.m, foldN_sets _ _ _ _ (fun x hx => h.f x (fin_mem hx)) (by rw [List.nil_append]; exact fin_apart h.a)]
  simp
theorem snoc_ind {P : List EvT → Prop} (h0 : P []) (h1 : ∀ l e, P l → P (l ++ [e])) (l : List EvT) : P l := by
  have h : ∀ r : List EvT, P r.reverse := by
    intro r
    induction r with
    | nil => exact h0
    | cons e r ih => rw [List.reverse_cons]; exact h1 _ _ ih
  rw [← l.reverse_reverse]; exact h _
theorem ntI (l : List EvT) : NtI l (foldN nt0 l) := by
  induction l using snoc_ind with
  | h0 => exact ⟨fun x hx => (by cases hx), fun x hx => (by cases hx), List.Pairwise.nil, rfl, Nat.le_refl _⟩
  | h1 l e ih =>
    rw [foldN_snoc]
    generalize foldN nt0 l = p at ih
    have ho := ih.out
    obtain ⟨o, m, f⟩ := p
    unfold stepN
    by_cases hc : isCut e = true
    · rw [if_pos hc]
      have he : o ++ m ++ finE f = outN ⟨o, m, f⟩ := rfl
      refine ⟨fun x hx => (by cases hx), fun x hx => (by cases hx), List.Pairwise.nil, ?_, ?_⟩
      · simp only
        rw [he, foldN_snoc, ho]
        unfold stepN
        rw [if_pos hc]
        simp only
        rw [fin_fin]; rfl
      · have := ih.n; have := fin_len f; simp only [List.length_append, List.length_nil, List.length_cons] at *; omega
    · rw [if_neg hc]
      have hcf : isCut e = false := by simpa using hc
      by_cases hs : isSet e = true
      · rw [if_pos hs]
        refine ⟨ih.m, ins_sets ih.f hs, ins_apart ih.a, ih.o, ?_⟩
        have := ih.n; have := insE_len f e; simp only [List.length_append, List.length_nil, List.length_cons] at *; omega
      · rw [if_neg hs]
        have hsf : isSet e = false := by simpa using hs
        refine ⟨fun x hx => ?_, ih.f, ih.a, ih.o, ?_⟩
        · rcases List.mem_append.1 hx with hx | hx
          · exact ih.m x hx
          · obtain rfl : x = e := by simpa using hx
            exact ⟨hcf, hsf⟩
        · have := ih.n; simp only [List.length_append, List.length_nil, List.length_cons] at *; omega
theorem net_net (l : List EvT) : netL (netL l) = netL l := by
  unfold netL
  rw [(ntI l).out]
  unfold outN
  simp only
  rw [fin_fin]
theorem net_len (l : List EvT) : (netL l).length ≤ l.length := by
  have := (ntI l).n
  have := fin_len (foldN nt0 l).f
  unfold netL outN
  simp only [List.length_append]; omega
theorem take_snoc {l : List EvT} {k : Nat} {x : EvT} (h : l[k]? = some x) : l.take (k + 1) = l.take k ++ [x] := by
  rw [List.take_add_one, h]; rfl
end Go.Proofs.Ytncmfkmgaghklaa
