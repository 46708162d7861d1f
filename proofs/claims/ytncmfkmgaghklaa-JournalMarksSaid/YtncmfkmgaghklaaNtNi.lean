/- Layer 13: the net's events are as wide as those that it is of. Plain facts. -/
import Derived.Test.YtncmfkmgaghklaaNtDef
import Derived.Test.YtncmfkmgaghklaaEvInv
namespace Go.Proofs.Ytncmfkmgaghklaa
open Go.RowKit Ex
set_option maxRecDepth 100000
theorem ins_i {f : List EvT} {e : EvT} (hf : ∀ x ∈ f, EvI x) (he : EvI e) : ∀ x ∈ insE f e, EvI x := by
  induction f with
  | nil => intro x hx; obtain rfl : x = e := by simpa [insE] using hx
           exact he
  | cons y r ih =>
    have hy := hf y (List.mem_cons_self ..)
    have ih := ih fun x hx => hf x (List.mem_cons_of_mem _ hx)
    intro x hx
    simp only [insE] at hx
    split at hx
    · rcases List.mem_cons.1 hx with rfl | h
      · exact ⟨hy.k, hy.a, hy.b, hy.c, he.d, hy.e⟩
      · exact hf x (List.mem_cons_of_mem _ h)
    · rcases List.mem_cons.1 hx with rfl | h
      · exact hy
      · exact ih x h
theorem fold_i {l : List EvT} (h : ∀ e ∈ l, EvI e) : (∀ e ∈ (foldN nt0 l).o, EvI e) ∧ (∀ e ∈ (foldN nt0 l).m, EvI e) ∧ ∀ e ∈ (foldN nt0 l).f, EvI e := by
  induction l using snoc_ind with
  | h0 => exact ⟨fun e he => (by cases he), fun e he => (by cases he), fun e he => (by cases he)⟩
  | h1 l e ih =>
    obtain ⟨h1, h2, h3⟩ := ih fun x hx => h x (List.mem_append_left _ hx)
    have he := h e (by simp)
    rw [foldN_snoc]
    generalize foldN nt0 l = p at h1 h2 h3
    obtain ⟨o, m, f⟩ := p
    unfold stepN
    split
    · refine ⟨fun x hx => ?_, fun x hx => (by cases hx), fun x hx => (by cases hx)⟩
      simp only [List.mem_append, List.mem_singleton] at hx
      rcases hx with ((hx | hx) | hx) | rfl
      · exact h1 x hx
      · exact h2 x hx
      · exact h3 x (fin_mem hx)
      · exact he
    · split
      · exact ⟨h1, h2, ins_i h3 he⟩
      · refine ⟨h1, fun x hx => ?_, h3⟩
        rcases List.mem_append.1 hx with hx | hx
        · exact h2 x hx
        · obtain rfl : x = e := by simpa using hx
          exact he
theorem net_i {l : List EvT} (h : ∀ e ∈ l, EvI e) : ∀ e ∈ netL l, EvI e := by
  obtain ⟨h1, h2, h3⟩ := fold_i h
  intro x hx
  unfold netL outN at hx
  rcases List.mem_append.1 hx with hx | hx
  · rcases List.mem_append.1 hx with hx | hx
    · exact h1 x hx
    · exact h2 x hx
  · exact h3 x (fin_mem hx)
end Go.Proofs.Ytncmfkmgaghklaa
