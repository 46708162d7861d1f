/- Layer 14: JournalPlays between two steps: a journal, an older one, the document's, each in blocks of its own; the law's own boxes. -/
import Derived.Test.YtncmfkmgaghklaaJnG
import Derived.Test.YtncmfkmgaghklaaJnLw
namespace Go.Proofs.Ytncmfkmgaghklaa
open Go.RowKit Ex
set_option maxRecDepth 100000
namespace Ex
/-- Another journal: where it is, what it holds, in which blocks. -/
structure OT where
  p : Nat
  j : JT
  f : Nat → Prop
end Ex
open Ex
def oldV (o : Option OT) : Value := match o with | none => .pointer none | some o => ptrV o.p
/-- The other journal stands apart. -/
structure OldR (T : JRep) (w : World) (X Fj G : Nat → Prop) (o : OT) (W : World) : Prop where
  r : T.R W o.p o.j o.f
  low : ∀ b, o.f b → w.heap.size ≤ b
  ok : JOk o.j
  x : ∀ b, X b → ¬ o.f b
  g : ∀ b, o.f b → ¬ G b
  d : ∀ b, o.f b → ¬ Fj b
structure LJ (T : JRep) (w : World) (X : Nat → Prop) (pj : Nat) (J : JT) (Fj : Nat → Prop) (old : Option OT) (G : Nat → Prop) (A : Option Addr) (n cc : Nat) (qs : List QT) (P : PT) (W : World) : Prop where
  b : Below w.heap.size w W
  r : T.R W pj J Fj
  ok : JOk J
  low : ∀ b, Fj b → w.heap.size ≤ b
  m : MG G W A n cc qs P
  d : ∀ b, Fj b → ¬ G b
  xl : ∀ b, X b → w.heap.size ≤ b ∧ b < W.heap.size
  xf : ∀ b, X b → ¬ Fj b
  xg : ∀ b, X b → ¬ G b
  o : ∀ o, old = some o → OldR T w X Fj G o W
section
variable {T : JRep} {w W W' : World} {X Fj G : Nat → Prop} {pj : Nat} {J : JT} {old : Option OT} {A : Option Addr} {n cc : Nat} {qs : List QT} {P : PT}
theorem LJ.flt (h : LJ T w X pj J Fj old G A n cc qs P W) : ∀ b, Fj b → b < W.heap.size := fun _ hb => T.lt h.r hb
theorem OldR.stay {o : OT} (h : OldR T w X Fj G o W) (hw : W.heap.size ≤ W'.heap.size) (hs : ∀ k, o.f k → W'.heap[k]? = W.heap[k]?) : OldR T w X Fj G o W' := ⟨T.stay h.r hw hs, h.low, h.ok, h.x, h.g, h.d⟩
theorem LJ.below (h : LJ T w X pj J Fj old G A n cc qs P W) (hb : Below W.heap.size W W') : LJ T w X pj J Fj old G A n cc qs P W' :=
  ⟨keepB hb h.b, T.stay h.r hb.size fun k hk => hb.block k (T.lt h.r hk), h.ok, h.low, h.m.below hb, h.d, fun b hx => ⟨(h.xl b hx).1, Nat.lt_of_lt_of_le (h.xl b hx).2 hb.size⟩, h.xf, h.xg,
    fun o ho => (h.o o ho).stay hb.size fun k hk => hb.block k (T.lt (h.o o ho).r hk)⟩
/-- New blocks of the law's own. -/
theorem LJ.addY {Y : Nat → Prop} (h : LJ T w X pj J Fj old G A n cc qs P W) (hb : Below W.heap.size W W') (hY : ∀ b, Y b → W.heap.size ≤ b ∧ b < W'.heap.size) : LJ T w (fun b => X b ∨ Y b) pj J Fj old G A n cc qs P W' := by
  have h' := h.below hb
  refine ⟨h'.b, h'.r, h'.ok, h'.low, h'.m, h'.d, fun b hx => ?_, fun b hx hf => ?_, fun b hx hf => ?_, fun o ho => ?_⟩
  · rcases hx with hx | hx
    · exact h'.xl b hx
    · exact ⟨Nat.le_trans h.b.size (hY b hx).1, (hY b hx).2⟩
  · rcases hx with hx | hx
    · exact h.xf b hx hf
    · have := h.flt _ hf; have := hY b hx; omega
  · rcases hx with hx | hx
    · exact h.xg b hx hf
    · have := h.m.lt _ hf; have := hY b hx; omega
  · have hO := h'.o o ho
    refine ⟨hO.r, hO.low, hO.ok, fun b hx hf => ?_, hO.g, hO.d⟩
    rcases hx with hx | hx
    · exact hO.x b hx hf
    · have := T.lt (h.o o ho).r hf; have := hY b hx; omega
theorem LJ.lessX {X' : Nat → Prop} (h : LJ T w X pj J Fj old G A n cc qs P W) (hX : ∀ b, X' b → X b) : LJ T w X' pj J Fj old G A n cc qs P W :=
  ⟨h.b, h.r, h.ok, h.low, h.m, h.d, fun b hx => h.xl b (hX b hx), fun b hx => h.xf b (hX b hx), fun b hx => h.xg b (hX b hx), fun o ho => let hO := h.o o ho; ⟨hO.r, hO.low, hO.ok, fun b hx => hO.x b (hX b hx), hO.g, hO.d⟩⟩
/-- The law's own blocks turn. -/
theorem LJ.turnX (h : LJ T w X pj J Fj old G A n cc qs P W) (hf : Foot X W W') : LJ T w X pj J Fj old G A n cc qs P W' :=
  ⟨h.b.trans (hf.below h.b.size fun k hk => (h.xl k hk).1), T.stay h.r hf.size fun k hk => hf.block k (T.lt h.r hk) fun hx => h.xf k hx hk, h.ok, h.low, h.m.stay hf.size fun k hk => hf.block k (h.m.lt k hk) fun hx => h.xg k hx hk, h.d,
    fun b hx => ⟨(h.xl b hx).1, Nat.lt_of_lt_of_le (h.xl b hx).2 hf.size⟩, h.xf, h.xg, fun o ho => (h.o o ho).stay hf.size fun k hk => hf.block k (T.lt (h.o o ho).r hk) fun hx => (h.o o ho).x k hx hk⟩
/-- The journal turns. -/
theorem LJ.turnJ {J' : JT} (h : LJ T w X pj J Fj old G A n cc qs P W) (hp : JP T W pj Fj J' W') (hok : JOk J') : ∃ F', LJ T w X pj J' F' old G A n cc qs P W' ∧ Foot Fj W W' := by
  obtain ⟨F', h1, h2, h3⟩ := hp
  refine ⟨F', ⟨h.b.trans (h3.below h.b.size h.low), h1, hok, fun b hb => ?_, h.m.stay h3.size fun k hk => h3.block k (h.m.lt k hk) fun hf => h.d k hf hk, fun b hb hg => ?_, fun b hx => ⟨(h.xl b hx).1, Nat.lt_of_lt_of_le (h.xl b hx).2 h3.size⟩, fun b hx hb => ?_, h.xg, fun o ho => ?_⟩, h3⟩
  · rcases h2 b hb with h4 | h4
    · exact h.low b h4
    · exact Nat.le_trans h.b.size h4
  · rcases h2 b hb with h4 | h4
    · exact h.d b h4 hg
    · have := h.m.lt b hg; omega
  · rcases h2 b hb with h4 | h4
    · exact h.xf b hx h4
    · have := (h.xl b hx).2; omega
  · have hO := h.o o ho
    have hO' := hO.stay h3.size fun k hk => h3.block k (T.lt hO.r hk) (hO.d k hk)
    refine ⟨hO'.r, hO'.low, hO'.ok, hO'.x, hO'.g, fun b hb hf => ?_⟩
    rcases h2 b hf with h4 | h4
    · exact hO.d b hb h4
    · have := T.lt hO.r hb; omega
/-- The other journal turns. -/
theorem LJ.turnO {o : OT} {J' : JT} (h : LJ T w X pj J Fj (some o) G A n cc qs P W) (hp : JP T W o.p o.f J' W') (hok : JOk J') : ∃ F', LJ T w X pj J Fj (some ⟨o.p, J', F'⟩) G A n cc qs P W' ∧ Foot o.f W W' := by
  have hO := h.o o rfl
  obtain ⟨F', h1, h2, h3⟩ := hp
  refine ⟨F', ⟨h.b.trans (h3.below h.b.size hO.low), T.stay h.r h3.size fun k hk => h3.block k (T.lt h.r hk) fun hf => hO.d k hf hk, h.ok, h.low, h.m.stay h3.size fun k hk => h3.block k (h.m.lt k hk) fun hf => hO.g k hf hk, h.d, fun b hx => ⟨(h.xl b hx).1, Nat.lt_of_lt_of_le (h.xl b hx).2 h3.size⟩, h.xf, h.xg, fun o' ho => ?_⟩, h3⟩
  injection ho with ho
  subst ho
  refine ⟨h1, fun b hb => ?_, hok, fun b hx hb => ?_, fun b hb hg => ?_, fun b hb hf => ?_⟩
  · rcases h2 b hb with h4 | h4
    · exact hO.low b h4
    · exact Nat.le_trans h.b.size h4
  · rcases h2 b hb with h4 | h4
    · exact hO.x b hx h4
    · have := (h.xl b hx).2; omega
  · rcases h2 b hb with h4 | h4
    · exact hO.g b h4 hg
    · have := h.m.lt b hg; omega
  · rcases h2 b hb with h4 | h4
    · exact hO.d b h4 hf
    · have := h.flt b hf; omega
/-- Another one of the document's. -/
theorem LJ.newM {G' : Nat → Prop} {A' : Option Addr} {n' c' : Nat} {qs' : List QT} {P' : PT} (h : LJ T w X pj J Fj old G A n cc qs P W) (hb : Below W.heap.size W W') (hm : MG G' W' A' n' c' qs' P') (hG : ∀ b, G' b → G b ∨ W.heap.size ≤ b) :
    LJ T w X pj J Fj old G' A' n' c' qs' P' W' := by
  have h' := h.below hb
  refine ⟨h'.b, h'.r, h'.ok, h'.low, hm, fun b hf hg => ?_, h'.xl, h'.xf, fun b hx hg => ?_, fun o ho => ?_⟩
  · rcases hG b hg with h4 | h4
    · exact h.d b hf h4
    · have := h.flt b hf; omega
  · rcases hG b hg with h4 | h4
    · exact h.xg b hx h4
    · have := (h.xl b hx).2; omega
  · have hO := h'.o o ho
    refine ⟨hO.r, hO.low, hO.ok, hO.x, fun b hf hg => ?_, hO.d⟩
    rcases hG b hg with h4 | h4
    · exact hO.g b hf h4
    · have := T.lt (h.o o ho).r hf; omega
/-- A copy goes on, the journal is the other one. -/
theorem LJ.copy {p' : Nat} {F' : Nat → Prop} (h : LJ T w X pj J Fj old G A n cc qs P W) (hb : Below W.heap.size W W') (hr : T.R W' p' J F') (hF : ∀ b, F' b → W.heap.size ≤ b) : LJ T w X p' J F' (some ⟨pj, J, Fj⟩) G A n cc qs P W' := by
  have h' := h.below hb
  refine ⟨h'.b, hr, h'.ok, fun b hf => Nat.le_trans h.b.size (hF b hf), h'.m, fun b hf hg => ?_, h'.xl, fun b hx hf => ?_, h'.xg, fun o ho => ?_⟩
  · have := h.m.lt b hg; have := hF b hf; omega
  · have := (h.xl b hx).2; have := hF b hf; omega
  · injection ho with ho
    subst ho
    refine ⟨h'.r, h'.low, h'.ok, h'.xf, h'.d, fun b hf hf2 => ?_⟩
    have := h.flt b hf; have := hF b hf2; omega
end
theorem foot_row {X : Nat → Prop} {W : World} {g : Nat} (hx : X g) (cs : Array Value) : Foot X W (W.setRow g cs) := ⟨rfl, rfl, rfl, by simp, fun k _ hn => setRow_other W g k cs (fun e => hn (by rw [e]; exact hx))⟩
theorem foot_cell {X : Nat → Prop} {W : World} {g o : Nat} (hx : X g) (v : Value) : Foot X W (W.setCell ⟨g, o, none⟩ v) := ⟨rfl, rfl, rfl, by simp, fun k _ hn => heap_setCell_other W ⟨g, o, none⟩ k v (fun e => hn (by rw [e]; exact hx))⟩
/-- A block that the law owns stands, whatever the journal turns. -/
theorem Foot.keep {F : Nat → Prop} {W W' : World} {g : Nat} {o : Obj} (h : Foot F W W') (hn : ¬ F g) (hg : W.heap[g]? = some o) : W'.heap[g]? = some o := (h.block g (Array.getElem?_eq_some_iff.1 hg).1 hn).trans hg
/-- Sizes, and that journal and document's are one. -/
structure LS (k u : Nat) (J : JT) (old : Option OT) (n : Nat) (P : PT) : Prop where
  e : J = toJ P
  n : n ≤ k + 1
  ev : (flat (allPs P)).length ≤ 20 * k
  l : J.last ≤ (k : Int)
  l0 : 0 ≤ J.last
  o : ∀ o, old = some o → o.j.ev.length ≤ 20 * k + u ∧ o.j.last ≤ (k : Int) + (u : Int)
theorem flat_ps (P : PT) : flat (allPs P) = (toJ P).ev := by unfold allPs; rw [flat_cons]; rfl
section
variable {k u n : Nat} {J : JT} {old : Option OT} {P : PT}
theorem LS.next (h : LS k u J old n P) : LS (k + 1) u J old n P := ⟨h.e, by have := h.n; omega, by have := h.ev; omega, by have := h.l; omega, h.l0, fun o ho => by have := h.o o ho; omega⟩
theorem LS.add {evs : List EvT} (h : LS k u J old n P) (hz : addE J evs = 0) (hl : evs.length ≤ 20) : LS (k + 1) u (addJ J evs) old n (addP P evs) := by
  have hg : addJ J evs = ⟨J.ev ++ evs, J.ms, J.last⟩ := if_pos hz
  refine ⟨by rw [hg, toJ_add, ← h.e], by have := h.n; omega, ?_, by rw [hg]; have := h.l; show J.last ≤ _; omega, by rw [hg]; exact h.l0, fun o ho => by have := h.o o ho; omega⟩
  have := h.ev
  rw [flat_ps] at this ⊢
  rw [toJ_add]
  simp only [List.length_append]
  omega
theorem LS.mark (h : LS k u J old n P) : LS (k + 1) u (markJ J) old (n + 1) (markP P) := by
  refine ⟨by rw [toJ_mark, ← h.e], by have := h.n; omega, ?_, by have := h.l; show J.last + 1 ≤ _; omega, by have := h.l0; show 0 ≤ J.last + 1; omega, fun o ho => by have := h.o o ho; omega⟩
  have := h.ev
  rw [flat_ps] at this ⊢
  rw [toJ_mark]
  show (toJ P).ev.length ≤ _
  omega
theorem LS.back {x : Int} {i : Nat} (h : LS k u J old n P) (hi : idxP P.r x = some i) (hn : n = (allPs P).length) : LS (k + 1) u (backJ J x) old (i + 1 + 1) (backP P x i []) := by
  obtain ⟨lx, hx⟩ := idx_at hi
  have hil := (List.getElem?_eq_some_iff.1 hx).1
  have hnl : n = P.r.length + 1 := hn
  have hl := back_len (j := J) (c := x)
  refine ⟨by rw [back_P hi, ← h.e], by have := h.n; omega, ?_, by rw [hl]; have := h.l; omega, by rw [hl]; exact h.l0, fun o ho => by have := h.o o ho; omega⟩
  have h1 := h.ev
  rw [flat_ps] at h1 ⊢
  rw [back_P hi]
  unfold backJ
  split
  · omega
  · simp only [List.length_take]; omega
theorem LS.fold {x : Int} {i : Nat} (h : LS k u J old n P) (hi : idxP P.r x = some i) (hn : n = (allPs P).length) : LS (k + 1) u (foldJ J x) old (i + 1 + 1) (backP P x i (netL (flat (P.r.drop i)))) := by
  obtain ⟨lx, hx⟩ := idx_at hi
  have hil := (List.getElem?_eq_some_iff.1 hx).1
  have hnl : n = P.r.length + 1 := hn
  have hl : (foldJ J x).last = J.last := by unfold foldJ; split <;> rfl
  refine ⟨by rw [fold_P hi, ← h.e], by have := h.n; omega, ?_, by rw [hl]; have := h.l; omega, by rw [hl]; exact h.l0, fun o ho => by have := h.o o ho; omega⟩
  have h1 := h.ev
  rw [flat_ps] at h1 ⊢
  rw [fold_P hi]
  unfold foldJ
  split
  · omega
  · rename_i a _
    have h2 := net_len ((toJ P).ev.drop a)
    rw [List.length_drop] at h2
    simp only [List.length_append, List.length_take]
    omega
/-- The other one has a checkpoint and an event more. -/
theorem LS.older {o : OT} {F : Nat → Prop} (h : LS k u J (some o) n P) (hz : addE (markJ o.j) [ev0] = 0) : LS k (u + 1) J (some ⟨o.p, addJ (markJ o.j) [ev0], F⟩) n P :=
  ⟨h.e, h.n, h.ev, h.l, h.l0, fun o' ho => by
    injection ho with ho
    subst ho
    obtain ⟨h1, h2⟩ := h.o o rfl
    have hg : addJ (markJ o.j) [ev0] = ⟨(markJ o.j).ev ++ [ev0], (markJ o.j).ms, (markJ o.j).last⟩ := if_pos hz
    rw [hg]
    refine ⟨?_, ?_⟩
    · show (o.j.ev ++ [ev0]).length ≤ _
      rw [List.length_append]; simp only [List.length_cons, List.length_nil]; omega
    · show o.j.last + 1 ≤ _
      omega⟩
theorem LS.none_ (h : LS k u J none n P) : LS k (u + 1) J none n P := ⟨h.e, h.n, h.ev, h.l, h.l0, fun o ho => by cases ho⟩
/-- A copy goes on. -/
theorem LS.copy {pj : Nat} {Fj : Nat → Prop} (h : LS k u J old n P) : LS (k + 1) u J (some ⟨pj, J, Fj⟩) n P :=
  ⟨h.e, by have := h.n; omega, by have := h.ev; omega, by have := h.l; omega, h.l0, fun o ho => by
    injection ho with ho
    subst ho
    have h1 := h.ev
    rw [flat_ps, ← h.e] at h1
    have h2 := h.l
    exact ⟨by show J.ev.length ≤ _; omega, by show J.last ≤ _; omega⟩⟩
end
end Go.Proofs.Ytncmfkmgaghklaa
