/- A range over a function whose iterator hands memory to the round: what is handed may be known to read in the world at hand (H), and the caller's invariant grows with new blocks. -/
import Derived.RangeFuncNested
import Derived.RangeFuncBound
import Derived.RangeFuncCalls
import Derived.RangeFuncLeaves
import Derived.Test.YtmneajmedopheaaRows
namespace Go.Proofs.Ytmneajmedopheaa
open Go Go.RowKit
/-- It stands when blocks are added. -/
def Grows (I : World → Prop) : Prop := ∀ A B, I A → Below A.heap.size A B → I B
/-- It stands when a block at m or above that holds no cells turns. -/
def Turns (m : Nat) (I : World → Prop) : Prop := ∀ (A : World) (l : Nat) (o o' : Obj), m ≤ l → I A → A.heap[l]? = some o → o.isCells = false → I (A.putObj l o')
/-- The iterator's contract: N rounds, in their order; each is handed k and what reads as H says (l: the loop's record: what is made in the rounds lies above it; B: what the rounds keep). -/
def Hands (F : Fence) (n : Nat) (P : Program) (g : Nat) (lb : Array Value) (enc : Nat → Array Value → Array Value) (H : Nat → Nat → Array Value → World → Prop) (N : Nat) (B : World → Prop) : Prop :=
  ∀ (l : Nat) (J : Nat → World → Prop) (Jx : World → Prop) (W : World), l < W.heap.size → (∀ k A, J k A → B A ∧ l < A.heap.size) → (∀ k, Grows (J k)) → Grows Jx →
    (∀ k cs W1, k < N → J k W1 → H l k cs W1 → YieldAt F (n - 1) P l (enc k cs) W1 fun e W' => (e = .returned (.bool true) ∧ J (k + 1) W') ∨ (e = .returned (.bool false) ∧ Jx W')) →
    J 0 W → CallsIn F n P g (#[.func (.yield l) #[] #[]] ++ lb) W fun e W' => (∃ v, e = .returned v) ∧ (J N W' ∨ Jx W')
/-- How a round may be left. -/
def roundEnd (I : Nat → World → Prop) (Ix : Code → World → Prop) (k : Nat) (W : World) : Exit → Act → World → Prop
  | .normal, _, W' => KeepsOthers W W' ∧ I k W'
  | .ret, _, W' => KeepsOthers W W' ∧ Ix .ret W'
  | .exit id, _, W' => KeepsOthers W W' ∧ Ix (.exit id) W'
  | .goto t, _, W' => KeepsOthers W W' ∧ Ix (.goto t) W'
  | .panic _, _, _ => False
  | .outgrown, _, _ => False
variable {F : Fence} {n : Nat} {P : Program}
theorem range_hands {g : Operand} {ps : Array Tmp} {assign body : Code} {Q : Exit → Act → World → Prop} {a : Act} {w : World}
    (hro : F.round = none) (h1 : 1 ≤ n) {gf : Nat} {lb : Array Value} (hg : a.eval g = .func (.func gf) #[] lb) (hFg : F.fn gf) (eg : ∀ args w, (callFunc gf args).run P w = .ok (.enter gf args) w)
    {enc : Nat → Array Value → Array Value} {H : Nat → Nat → Array Value → World → Prop} {N : Nat} {B : World → Prop} (hseq : Hands F (n - 1) P gf lb enc H N B) (hps : ∀ k cs, (enc k cs).size = ps.size)
    (I : Nat → World → Prop) (Ix : Code → World → Prop) (M : Nat → Nat → Array Value → Act → World → Prop)
    (hIg : ∀ k, Grows (I k)) (hIt : ∀ k, Turns w.heap.size (I k)) (hXg : ∀ c, Grows (Ix c)) (hXt : ∀ c, Turns w.heap.size (Ix c)) (hMt : ∀ (l k : Nat) (cs : Array Value) (a' : Act) (A : World) (o o' : Obj), w.heap.size ≤ l → M l k cs a' A → A.heap[l]? = some o → o.isCells = false → M l k cs a' (A.putObj l o')) (hIb : ∀ k A, I k A → B A) (h0 : I 0 w)
    (hassign : ∀ (l k : Nat) (cs : Array Value) (W : World) (K : Act → World → Prop), w.heap.size ≤ l → k < N → I k W → H l k cs W → (∀ a' W', M l k cs a' W' → KeepsOthers W W' → K a' W') →
      assign.wpIn (F.inRound l) (n - 1 - 1) P (Exit.then K (fun _ _ _ => False)) { tmps := (ps.zip (enc k cs)).foldl (fun t (p, v) => t.setIfInBounds p v) a.tmps, defers := [] } W)
    (hbody : ∀ (l k : Nat) (cs : Array Value) (a' : Act) (W : World), w.heap.size ≤ l → k < N → M l k cs a' W → body.wpIn (F.inRound l) (n - 1 - 1) P (roundEnd I Ix (k + 1) W) a' W)
    (hdone : ∀ (D : Nat) (W : World), w.heap.size ≤ D → I N W → W.heap[D]? = some (.deferred (some [])) → Q .normal { a with defers := { target := .collected D, args := #[] } :: a.defers } W)
    (hstop : ∀ (D : Nat) (c : Code) (W : World), w.heap.size ≤ D → Ix c W → W.heap[D]? = some (.deferred (some [])) → c.wpIn F n P Q { a with defers := { target := .collected D, args := #[] } :: a.defers } W) :
    (Code.rangeFunc g ps assign body).wpIn F n P Q a w := by
  refine wpIn_rangeFunc fun fn hfn => ?_
  rw [hro]
  obtain ⟨D, hD⟩ : ∃ D, D = w.heap.size := ⟨_, rfl⟩
  obtain ⟨rc, hrc⟩ : ∃ rc : LoopState → Option Code → Loop, rc = fun st pe => { state := st, pending := pe, fn, tmps := a.tmps, params := ps, assign, body, defers := D } := ⟨_, rfl⟩
  obtain ⟨W1, hW1⟩ : ∃ W1, (w.alloc (.deferred (some []))).alloc (.loop (rc .ready none)) = W1 := ⟨_, rfl⟩
  have hb1 : Below w.heap.size w W1 := by rw [← hW1]; exact ((Below.refl _ w).alloc (Nat.le_refl _) _).alloc (by simp) _
  have hL1 : W1.heap[D + 1]? = some (.loop (rc .ready none)) := by
    have h := World.alloc_heap_new (w.alloc (.deferred (some []))) (.loop (rc .ready none))
    rw [World.size_alloc, ← hD, hW1] at h
    exact h
  have hK1 : W1.heap[D]? = some (.deferred (some [])) := by
    rw [← hW1, hD]; exact (Below.heap_alloc _ _ _ (by simp)).trans (World.alloc_heap_new w _)
  refine ⟨D + 1, [{ target := .collected D, args := #[] }], W1, { target := .fn (.func gf) lb, args := #[.func (.yield (D + 1)) #[] #[]] }, W1, gf,
    #[.func (.yield (D + 1)) #[] #[]] ++ lb, W1, ?_, ?_, ?_, ?_, fun _ => h1, ?_⟩
  · rw [← hW1, hrc, hD]; exact run_enterLoop_outer _ _ _ _ _
  · simp only [resolve, hg]; simp [go_sem]
  · intro f' hf'; simp [Target.leads] at hf'; subst hf'; exact hFg
  · simp [invoke, go_sem, eg]
  -- the three facts that go from round to round
  have grow : ∀ {A B : World} {b : Nat} {o : Obj}, A.heap[b]? = some o → Below A.heap.size A B → B.heap[b]? = some o := fun {A B b o} h hb => (hb.block b (Array.getElem?_eq_some_iff.1 h).1).trans h
  refine (hseq (D + 1) (fun k W => I k W ∧ W.heap[D + 1]? = some (.loop (rc .ready none)) ∧ W.heap[D]? = some (.deferred (some [])))
    (fun W => ∃ c, Ix c W ∧ W.heap[D + 1]? = some (.loop (rc .done (some c))) ∧ W.heap[D]? = some (.deferred (some []))) W1 (Array.getElem?_eq_some_iff.1 hL1).1
    (fun k A h => ⟨hIb k A h.1, (Array.getElem?_eq_some_iff.1 h.2.1).1⟩) (fun k A B h hb => ⟨hIg k A B h.1 hb, grow h.2.1 hb, grow h.2.2 hb⟩) (fun A B ⟨c, h, h2, h3⟩ hb => ⟨c, hXg c A B h hb, grow h2 hb, grow h3 hb⟩) ?_ ⟨hIg 0 w W1 h0 hb1, hL1, hK1⟩).mono ?_
  · rintro k cs W hk ⟨hi, hl, hd⟩ hH
    have hy := run_yield (P := P) (args := enc k cs) hl (by rw [hrc]; exact hps k cs)
    rw [hrc] at hy
    refine ⟨fn, _, assign, body, hy, roundIn_of_wpIn hfn (hassign (D + 1) k cs W _ (by omega) hk hi hH fun a' W2 hM hk2 => ?_)⟩
    have hl2 := hk2.same _ _ hl rfl
    have hd2 := hk2.same _ _ hd rfl
    refine ⟨_, run_beginRound hl2 (by rw [hrc]), ?_⟩
    have hlt : D + 1 < W2.heap.size := (Array.getElem?_eq_some_iff.1 hl2).1
    have hl3 : (W2.putObj (D + 1) (.loop { rc .ready none with state := .busy })).heap[D + 1]? = some (.loop { rc .ready none with state := .busy }) := World.putObj_heap_same hlt
    have hd3 : (W2.putObj (D + 1) (.loop { rc .ready none with state := .busy })).heap[D]? = some (.deferred (some [])) := (World.putObj_heap_other (by omega)).trans hd2
    refine wpIn_mono (hbody (D + 1) k cs a' _ (by omega) hk (hMt (D + 1) k cs a' W2 _ _ (by omega) hM hl2 rfl)) ?_
    have fin : ∀ (jump : Option Code) (W3 : World), KeepsOthers (W2.putObj (D + 1) (.loop { rc .ready none with state := .busy })) W3 →
        ∃ r, W3.heap[D + 1]? = some (.loop r) ∧ (Instr.endRound (D + 1) jump).run P W3 = .ok (.bool jump.isNone) (W3.putObj (D + 1) (.loop (rc (if jump.isNone then .ready else .done) jump))) ∧
          (W3.putObj (D + 1) (.loop (rc (if jump.isNone then .ready else .done) jump))).heap[D + 1]? = some (.loop (rc (if jump.isNone then .ready else .done) jump)) ∧
          (W3.putObj (D + 1) (.loop (rc (if jump.isNone then .ready else .done) jump))).heap[D]? = some (.deferred (some [])) := fun jump W3 hk3 => by
      have h3 := hk3.same _ _ hl3 rfl
      have hr := run_endRound (P := P) jump h3
      rw [hrc] at hr ⊢
      exact ⟨_, h3, hr, World.putObj_heap_same (Array.getElem?_eq_some_iff.1 h3).1, (World.putObj_heap_other (by omega)).trans (hk3.same _ _ hd3 rfl)⟩
    rintro e a3 W3 hp
    cases e with
    | normal =>
      obtain ⟨r, hl4, hr, h4, h5⟩ := fin none W3 hp.1
      exact ⟨_, _, hr, .inl ⟨rfl, hIt _ W3 (D + 1) _ _ (by omega) hp.2 hl4 rfl, h4, h5⟩⟩
    | ret =>
      obtain ⟨r, hl4, hr, h4, h5⟩ := fin (some .ret) W3 hp.1
      exact ⟨_, _, hr, .inr ⟨rfl, .ret, hXt _ W3 (D + 1) _ _ (by omega) hp.2 hl4 rfl, h4, h5⟩⟩
    | exit id =>
      obtain ⟨r, hl4, hr, h4, h5⟩ := fin (some (.exit id)) W3 hp.1
      exact ⟨_, _, hr, .inr ⟨rfl, .exit id, hXt _ W3 (D + 1) _ _ (by omega) hp.2 hl4 rfl, h4, h5⟩⟩
    | goto t =>
      obtain ⟨r, hl4, hr, h4, h5⟩ := fin (some (.goto t)) W3 hp.1
      exact ⟨_, _, hr, .inr ⟨rfl, .goto t, hXt _ W3 (D + 1) _ _ (by omega) hp.2 hl4 rfl, h4, h5⟩⟩
    | panic ch => exact hp.elim
    | outgrown => exact hp.elim
  · rintro e W2 ⟨⟨v, rfl⟩, (⟨hi, hl, hd⟩ | ⟨c, hi, hl, hd⟩)⟩
    · exact ⟨none, _, by have h := run_endLoop (P := P) hl (by rw [hrc]; simp); rw [hrc] at h; exact h, hdone D _ (by omega) (hIt _ W2 (D + 1) _ _ (by omega) hi hl rfl) ((World.putObj_heap_other (by omega)).trans hd)⟩
    · exact ⟨some c, _, by have h := run_endLoop (P := P) hl (by rw [hrc]; simp); rw [hrc] at h; exact h, hstop D c _ (by omega) (hXt _ W2 (D + 1) _ _ (by omega) hi hl rfl) ((World.putObj_heap_other (by omega)).trans hd)⟩
end Go.Proofs.Ytmneajmedopheaa
