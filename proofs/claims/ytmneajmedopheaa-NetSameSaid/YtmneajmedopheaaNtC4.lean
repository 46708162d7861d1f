/- Layer 13: a span's net in the making: what came out, the sets, where each field's stands. -/
import Derived.Test.YtmneajmedopheaaNtKey
import Derived.Test.YtmneajmedopheaaNtEv2
namespace Go.Proofs.Ytmneajmedopheaa
open Go.RowKit Ex Go.Maps
set_option maxRecDepth 100000
/-- What came out, moves behind it; the sets; the map. -/
structure SpI (base gm : Nat) (o0 : List EvT) (A : Option Addr) (n c : Nat) (As : Option Addr) (ns cs : Nat) (D : DataW Unit) (m f : List EvT) (w W : World) : Prop where
  b : Below base w W
  ho : OwnV W base A n c (o0 ++ m)
  hf : OwnV W base As ns cs f
  hm : Places W gm ns D
  mf : MapF D f
  d : ∀ j, (Value.slice A n c).ownBlock = some j → (Value.slice As ns cs).ownBlock ≠ some j
  g : base ≤ gm
  ap : Apart f
theorem gb_below {w w' : World} (h : Below w.heap.size w w') (row : Option Nat) : w.grownBy w' row := ⟨h.os, h.tape, h.output, h.size, fun k hk _ => h.block k hk⟩
theorem OwnV.gone {W W' : World} {base n c : Nat} {A : Option Addr} {l : List EvT} {row : Option Nat} (h : OwnV W base A n c l) (hg : W.grownBy W' row) (hne : ∀ j, (Value.slice A n c).ownBlock = some j → some j ≠ row) : OwnV W' base A n c l :=
  ⟨h.len, owns_keep h.o fun j hj => hg.block j (h.o.lt j hj).2 (hne j hj)⟩
theorem OwnV.not_map {W : World} {base n c gm k : Nat} {A : Option Addr} {l : List EvT} {D : DataW Unit} (h : OwnV W base A n c l) (hm : Places W gm k D) : ∀ j, (Value.slice A n c).ownBlock = some j → j ≠ gm := fun j hj e => by
  obtain ⟨_, cur, hc⟩ := own_ty h.o hj
  obtain ⟨es, clock, hb, _⟩ := hm
  subst e
  rw [hc] at hb; cases hb
section
variable {base gm n c ns cs : Nat} {o0 m f : List EvT} {A As : Option Addr} {D : DataW Unit} {w W W' : World}
theorem SpI.size (h : SpI base gm o0 A n c As ns cs D m f w W) : base ≤ W.heap.size := Nat.le_of_lt (Nat.lt_of_le_of_lt h.g h.hm.lt)
theorem SpI.keep (h : SpI base gm o0 A n c As ns cs D m f w W) (hb : Below W.heap.size W W') : SpI base gm o0 A n c As ns cs D m f w W' :=
  ⟨h.b.trans (hb.mono h.size), h.ho.below hb, h.hf.below hb, h.hm.kept (gb_below hb none) (by simp), h.mf, h.d, h.g, h.ap⟩
/-- More came out. -/
theorem SpI.addO (h : SpI base gm o0 A n c As ns cs D m f w W) {A' : Option Addr} {n' c' : Nat} {m' : List EvT} (ho : OwnV W' base A' n' c' (o0 ++ m')) (hg : W.grownBy W' (Value.slice A n c).ownBlock)
    (hat : (Value.slice A' n' c').ownBlock = (Value.slice A n c).ownBlock ∨ (Value.slice A' n' c').ownBlock = some W.heap.size) : SpI base gm o0 A' n' c' As ns cs D m' f w W' := by
  refine ⟨h.ho.grown h.b h.size hg, ho, h.hf.gone hg fun j hj e => h.d j e.symm hj, h.hm.kept hg fun e => h.ho.not_map h.hm gm e.symm rfl, h.mf, fun j hj e => ?_, h.g, h.ap⟩
  rcases hat with h1 | h1
  · rw [h1] at hj; exact h.d j hj e
  · rw [h1] at hj
    injection hj with hj
    have := (h.hf.o.lt j e).2
    omega
/-- A field more: the map, then the sets. -/
theorem SpI.addM (h : SpI base gm o0 A n c As ns cs D m f w W) (hg : W.grownBy W' (some gm)) : Below base w W' ∧ OwnV W' base A n c (o0 ++ m) ∧ OwnV W' base As ns cs f ∧ base ≤ W'.heap.size :=
  ⟨h.b.grown hg h.size (fun j hj => by injection hj with hj; rw [← hj]; exact h.g), h.ho.gone hg fun j hj e => by injection e with e; exact h.ho.not_map h.hm j hj e, h.hf.gone hg fun j hj e => by injection e with e; exact h.hf.not_map h.hm j hj e, Nat.le_trans h.size hg.size⟩
theorem SpI.addF {x : EvT} {kl : Lit} {As' : Option Addr} {cs' : Nat} {W'' : World} (h : SpI base gm o0 A n c As ns cs D m f w W) (hl : keyOf Try.prog 70 (keyV x) = some kl) (hn : has D kl = false) (hap : Apart (f ++ [x]))
    (hb : Below base w W') (ho : OwnV W' base A n c (o0 ++ m)) (hf' : OwnV W' base As ns cs f) (hm : Places W' gm (ns + 1) (D.put kl (.lit (.int .i64 (ns : Int)))))
    (hf : OwnV W'' base As' (ns + 1) cs' (f ++ [x])) (hg : W'.grownBy W'' (Value.slice As ns cs).ownBlock)
    (hat : (Value.slice As' (ns + 1) cs').ownBlock = (Value.slice As ns cs).ownBlock ∨ (Value.slice As' (ns + 1) cs').ownBlock = some W'.heap.size) :
    SpI base gm o0 A n c As' (ns + 1) cs' (D.put kl (.lit (.int .i64 (ns : Int)))) m (f ++ [x]) w W'' := by
  have hsz : base ≤ W'.heap.size := Nat.le_of_lt (Nat.lt_of_le_of_lt h.g hm.lt)
  refine ⟨hf'.grown hb hsz hg, ho.gone hg fun j hj e => h.d j hj e.symm, hf, hm.kept hg fun e => hf'.not_map hm gm e.symm rfl, ?_, fun j hj e => ?_, h.g, hap⟩
  · have := h.mf.new hl hn
    rw [← h.hf.len] at this
    exact this
  · rcases hat with h1 | h1
    · rw [h1] at e; exact h.d j hj e
    · rw [h1] at e
      injection e with e
      have := (ho.o.lt j hj).2
      omega
theorem SpI.setF {g i : Nat} {y : EvT} {d : Int} (h : SpI base gm o0 A n c (some ⟨g, 0, none⟩) ns cs D m f w W) (hbg : base ≤ g) (hy : f[i]? = some y)
    (hf : OwnV (W.setCell ⟨g, i * 6 + 4, none⟩ (.int .i64 d)) base (some ⟨g, 0, none⟩) ns cs (f.set i { y with d := d })) (hap : Apart (f.set i { y with d := d })) :
    SpI base gm o0 A n c (some ⟨g, 0, none⟩) ns cs D m (f.set i { y with d := d }) w (W.setCell ⟨g, i * 6 + 4, none⟩ (.int .i64 d)) := by
  have hg : W.grownBy (W.setCell ⟨g, i * 6 + 4, none⟩ (.int .i64 d)) (some g) := ⟨rfl, rfl, rfl, by simp, fun k _ hne => heap_setCell_other W ⟨g, i * 6 + 4, none⟩ k _ (fun e => hne (by rw [e]))⟩
  have hgg : (Value.slice (some ⟨g, 0, none⟩) ns cs).ownBlock = some g := rfl
  exact ⟨h.b.grown hg h.size (fun j hj => by injection hj with hj; rw [← hj]; exact hbg), h.ho.gone hg fun j hj e => h.d j hj (by rw [hgg, e]), hf, h.hm.kept hg fun e => h.hf.not_map h.hm g hgg (by injection e with e; exact e.symm), h.mf.set_ hy d, h.d, h.g, hap⟩
end
end Go.Proofs.Ytmneajmedopheaa
