/- A state in blocks of the call's own: a number of an object is written. -/
import Derived.Test.YtplfblccaeligaaDoorEvOwn
import Derived.Test.YtplfblccaeligaaDoorObSet
import Derived.Test.YtplfblccaeligaaDoorShG4
import Derived.Test.YtplfblccaeligaaDoorGen
namespace Go.Proofs.YtplfblccaeligaaDoor
open Go.RowKit Ex
set_option maxRecDepth 100000
theorem OwnS.form {W : World} {B : Nat} {s : StT} {O : SlT} {L : Nat → SlT} (h : OwnS W B s O L) (hn : 0 < s.objs.length) : ∃ g, O.A = some ⟨g, 0, none⟩ := by
  have ho := h.o
  rcases ho.2 with ⟨hv, hz⟩ | ⟨g, cap, cur, hv, _⟩
  · have := h.on; omega
  · obtain ⟨A, n, c⟩ := O
    injection hv with h1 _ _
    exact ⟨g, h1⟩
section
variable {W : World} {B g n c : Nat} {os : List (Nat → Int)} {l : Nat → List Int} {p q : Nat → Int} {L : Nat → SlT}
/-- Where an object's number stands, and that it may be written. -/
theorem OwnS.at_ (h : OwnS W B ⟨os, l, p, q⟩ ⟨some ⟨g, 0, none⟩, n, c⟩ L) {i j : Nat} (hi : i < os.length) (hj : j < 18) : W.cell? ⟨g, i * 18 + j, none⟩ = some (.int .i64 (os[i] j)) ∧ W.frozen? ⟨g, i * 18 + j, none⟩ = false ∧ B ≤ g := by
  have ho : W.ownsRow B 37 18 (.slice (some ⟨g, 0, none⟩) n c) n (flatO os) := h.o
  obtain ⟨g', e', hcell, hfr, hb, hset⟩ := owns_set ho hi hj
  obtain rfl : g = g' := by injection e' with e'; injection e'
  exact ⟨hcell, hfr, hb⟩
theorem OwnS.setc (h : OwnS W B ⟨os, l, p, q⟩ ⟨some ⟨g, 0, none⟩, n, c⟩ L) {i j : Nat} (hi : i < os.length) (hj : j < 18) (x : Int) : OwnS (W.setCell ⟨g, i * 18 + j, none⟩ (.int .i64 x)) B ⟨setO os i j x, l, p, q⟩ ⟨some ⟨g, 0, none⟩, n, c⟩ L := by
  have ho : W.ownsRow B 37 18 (.slice (some ⟨g, 0, none⟩) n c) n (flatO os) := h.o
  obtain ⟨g', e', hcell, hfr, hb, hset⟩ := owns_set ho hi hj
  obtain rfl : g = g' := by injection e' with e'; injection e'
  refine ⟨?_, hset x, fun z hz => ⟨(h.l z hz).1, owns_keep (h.l z hz).2 fun k hk => heap_setCell_other W ⟨g, i * 18 + j, none⟩ k _ ?_⟩, h.d⟩
  · show n = (setO os i j x).length
    rw [setO_len]; exact h.on
  · intro e
    have e : k = g := by simpa using e
    subst e
    obtain ⟨_, cur, hc⟩ := own_ty (h.l z hz).2 hk
    obtain ⟨_, cur2, hc2⟩ := own_ty ho (j := k) rfl
    exact absurd (ty_same hc hc2) (by decide)
/-- A state's box is no block of objects. -/
theorem OwnS.box (h : OwnS W B ⟨os, l, p, q⟩ ⟨some ⟨g, 0, none⟩, n, c⟩ L) {k : Nat} {cs : Array Value} (hk : StAt W k cs) : k ≠ g := by
  have ho : W.ownsRow B 37 18 (.slice (some ⟨g, 0, none⟩) n c) n (flatO os) := h.o
  intro e
  subst e
  obtain ⟨_, cur2, hc2⟩ := own_ty ho (j := k) rfl
  exact absurd (ty_same hk hc2) (by decide)
end
end Go.Proofs.YtplfblccaeligaaDoor
