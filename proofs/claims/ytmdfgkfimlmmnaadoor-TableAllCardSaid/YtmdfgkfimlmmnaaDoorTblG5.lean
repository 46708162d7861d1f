/- A range over a function whose iterator hands memory to the round: what is handed may be known to read in the world at hand (H), and the caller's invariant grows with new blocks. Layer 7: two copies of one card, each in blocks of its own, and what stays of them while one is written into. Layer 8: the laws' walks: TableAll. Layer 8: table's All: an iterator that hands a card in each round. -/
import Derived.RangeFuncNested
import Derived.RangeFuncBound
import Derived.RangeFuncCalls
import Derived.RangeFuncLeaves
import Derived.Test.YtmdfgkfimlmmnaaDoorRows
import Derived.Test.YtmdfgkfimlmmnaaDoorCardChk
import Derived.Test.YtmdfgkfimlmmnaaDoorCardCards
import Derived.Test.YtmdfgkfimlmmnaaDoorCardMade
import Derived.Shelf.Abstract
import Derived.Shelf.RegionOpen
import Derived.WalkKit
import Derived.OwnWalkIn
import Derived.TacticsInMore
import Derived.LoopNIn
import Derived.LoopIn
import Derived.Sort.CutIn
import Derived.BigFrameIn
import Derived.Test.YtmdfgkfimlmmnaaDoorTblG1
import Derived.Test.YtmdfgkfimlmmnaaDoorTblG3
namespace Go.Proofs.YtmdfgkfimlmmnaaDoor
open Go Go.RowKit
/-- It stands when blocks are added. -/
def Grows (I : World → Prop) : Prop := ∀ A B, I A → Below A.heap.size A B → I B
/-- It stands when a block at m or above that holds no cells turns. -/
def Turns (m : Nat) (I : World → Prop) : Prop := ∀ (A : World) (l : Nat) (o o' : Obj), m ≤ l → I A → A.heap[l]? = some o → o.isCells = false → I (A.putObj l o')
/-- The iterator's contract: N rounds, in their order; each is handed k and what reads as H says (l: the loop's record: what is made in the rounds lies above it; B: what the rounds keep). -/
def Hands (F : Fence) (n : Nat) (P : Program) (g : Nat) (lb : Array Value) (enc : Nat → Array Value → Array Value) (H : Nat → Nat → Array Value → World → Prop) (N : Nat) (B : World → Prop) : Prop :=
  ∀ (l : Nat) (J : Nat → World → Prop) (Jx : World → Prop) (W : World), l < W.heap.size → (∀ k A, J k A → B A ∧ l < A.heap.size) → (∀ k, Grows (J k)) → Grows Jx →
    (∀ k cs W1, k < N → J k W1 → H l k cs W1 → YieldAt F (n - 1) P l (enc k cs) W1 fun e W' => (e = .returned (.bool true) ∧ J (k + 1) W') ∨ (e = .returned (.bool false) ∧ Jx W')) →
    J 0 W → CallsIn F n P g (#[.func (.yield l) #[] #[]] ++ lb) W fun e W' => (∃ v, e = .returned v) ∧ (J N W' ∨ Jx W')
/-- How a round may be left. -/
def roundEnd (I : Nat → World → Prop) (Ix : Code → World → Prop) (k : Nat) (W : World) : Exit → Act → World → Prop
  | .normal, _, W' => KeepsOthers W W' ∧ I k W'
  | .ret, _, W' => KeepsOthers W W' ∧ Ix .ret W'
  | .exit id, _, W' => KeepsOthers W W' ∧ Ix (.exit id) W'
  | .goto t, _, W' => KeepsOthers W W' ∧ Ix (.goto t) W'
  | .panic _, _, _ => False
  | .outgrown, _, _ => False
variable {F : Fence} {n : Nat} {P : Program}
theorem range_hands {g : Operand} {ps : Array Tmp} {assign body : Code} {Q : Exit → Act → World → Prop} {a : Act} {w : World}
    (hro : F.round = none) (h1 : 1 ≤ n) {gf : Nat} {lb : Array Value} (hg : a.eval g = .func (.func gf) #[] lb) (hFg : F.fn gf) (eg : ∀ args w, (callFunc gf args).run P w = .ok (.enter gf args) w)
    {enc : Nat → Array Value → Array Value} {H : Nat → Nat → Array Value → World → Prop} {N : Nat} {B : World → Prop} (hseq : Hands F (n - 1) P gf lb enc H N B) (hps : ∀ k cs, (enc k cs).size = ps.size)
    (I : Nat → World → Prop) (Ix : Code → World → Prop) (M : Nat → Nat → Array Value → Act → World → Prop)
    (hIg : ∀ k, Grows (I k)) (hIt : ∀ k, Turns w.heap.size (I k)) (hXg : ∀ c, Grows (Ix c)) (hXt : ∀ c, Turns w.heap.size (Ix c)) (hMt : ∀ (l k : Nat) (cs : Array Value) (a' : Act) (A : World) (o o' : Obj), w.heap.size ≤ l → M l k cs a' A → A.heap[l]? = some o → o.isCells = false → M l k cs a' (A.putObj l o')) (hIb : ∀ k A, I k A → B A) (h0 : I 0 w)
    (hassign : ∀ (l k : Nat) (cs : Array Value) (W : World) (K : Act → World → Prop), w.heap.size ≤ l → k < N → I k W → H l k cs W → (∀ a' W', M l k cs a' W' → KeepsOthers W W' → K a' W') →
      assign.wpIn (F.inRound l) (n - 1 - 1) P (Exit.then K (fun _ _ _ => False)) { tmps := (ps.zip (enc k cs)).foldl (fun t (p, v) => t.setIfInBounds p v) a.tmps, defers := [] } W)
    (hbody : ∀ (l k : Nat) (cs : Array Value) (a' : Act) (W : World), w.heap.size ≤ l → k < N → M l k cs a' W → body.wpIn (F.inRound l) (n - 1 - 1) P (roundEnd I Ix (k + 1) W) a' W)
    (hdone : ∀ (D : Nat) (W : World), w.heap.size ≤ D → I N W → W.heap[D]? = some (.deferred (some [])) → Q .normal { a with defers := { target := .collected D, args := #[] } :: a.defers } W)
    (hstop : ∀ (D : Nat) (c : Code) (W : World), w.heap.size ≤ D → Ix c W → W.heap[D]? = some (.deferred (some [])) → c.wpIn F n P Q { a with defers := { target := .collected D, args := #[] } :: a.defers } W) :
    (Code.rangeFunc g ps assign body).wpIn F n P Q a w := by
  refine wpIn_rangeFunc fun fn hfn => ?_
  rw [hro]
  obtain ⟨D, hD⟩ : ∃ D, D = w.heap.size := ⟨_, rfl⟩
  obtain ⟨rc, hrc⟩ : ∃ rc : LoopState → Option Code → Loop, rc = fun st pe => { state := st, pending := pe, fn, tmps := a.tmps, params := ps, assign, body, defers := D } := ⟨_, rfl⟩
  obtain ⟨W1, hW1⟩ : ∃ W1, (w.alloc (.deferred (some []))).alloc (.loop (rc .ready none)) = W1 := ⟨_, rfl⟩
  have hb1 : Below w.heap.size w W1 := by rw [← hW1]; exact ((Below.refl _ w).alloc (Nat.le_refl _) _).alloc (by simp) _
  have hL1 : W1.heap[D + 1]? = some (.loop (rc .ready none)) := by
    have h := World.alloc_heap_new (w.alloc (.deferred (some []))) (.loop (rc .ready none))
    rw [World.size_alloc, ← hD, hW1] at h
    exact h
  have hK1 : W1.heap[D]? = some (.deferred (some [])) := by
    rw [← hW1, hD]; exact (Below.heap_alloc _ _ _ (by simp)).trans (World.alloc_heap_new w _)
  refine ⟨D + 1, [{ target := .collected D, args := #[] }], W1, { target := .fn (.func gf) lb, args := #[.func (.yield (D + 1)) #[] #[]] }, W1, gf,
    #[.func (.yield (D + 1)) #[] #[]] ++ lb, W1, ?_, ?_, ?_, ?_, fun _ => h1, ?_⟩
  · rw [← hW1, hrc, hD]; exact run_enterLoop_outer _ _ _ _ _
  · simp only [resolve, hg]; simp [go_sem]
  · intro f' hf'; simp [Target.leads] at hf'; subst hf'; exact hFg
  · simp [invoke, go_sem, eg]
  -- the three facts that go from round to round
  have grow : ∀ {A B : World} {b : Nat} {o : Obj}, A.heap[b]? = some o → Below A.heap.size A B → B.heap[b]? = some o := fun {A B b o} h hb => (hb.block b (Array.getElem?_eq_some_iff.1 h).1).trans h
  refine (hseq (D + 1) (fun k W => I k W ∧ W.heap[D + 1]? = some (.loop (rc .ready none)) ∧ W.heap[D]? = some (.deferred (some [])))
    (fun W => ∃ c, Ix c W ∧ W.heap[D + 1]? = some (.loop (rc .done (some c))) ∧ W.heap[D]? = some (.deferred (some []))) W1 (Array.getElem?_eq_some_iff.1 hL1).1
    (fun k A h => ⟨hIb k A h.1, (Array.getElem?_eq_some_iff.1 h.2.1).1⟩) (fun k A B h hb => ⟨hIg k A B h.1 hb, grow h.2.1 hb, grow h.2.2 hb⟩) (fun A B ⟨c, h, h2, h3⟩ hb => ⟨c, hXg c A B h hb, grow h2 hb, grow h3 hb⟩) ?_ ⟨hIg 0 w W1 h0 hb1, hL1, hK1⟩).mono ?_
  · rintro k cs W hk ⟨hi, hl, hd⟩ hH
    have hy := run_yield (P := P) (args := enc k cs) hl (by rw [hrc]; exact hps k cs)
    rw [hrc] at hy
    refine ⟨fn, _, assign, body, hy, roundIn_of_wpIn hfn (hassign (D + 1) k cs W _ (by omega) hk hi hH fun a' W2 hM hk2 => ?_)⟩
    have hl2 := hk2.same _ _ hl rfl
    have hd2 := hk2.same _ _ hd rfl
    refine ⟨_, run_beginRound hl2 (by rw [hrc]), ?_⟩
    have hlt : D + 1 < W2.heap.size := (Array.getElem?_eq_some_iff.1 hl2).1
    have hl3 : (W2.putObj (D + 1) (.loop { rc .ready none with state := .busy })).heap[D + 1]? = some (.loop { rc .ready none with state := .busy }) := World.putObj_heap_same hlt
    have hd3 : (W2.putObj (D + 1) (.loop { rc .ready none with state := .busy })).heap[D]? = some (.deferred (some [])) := (World.putObj_heap_other (by omega)).trans hd2
    refine wpIn_mono (hbody (D + 1) k cs a' _ (by omega) hk (hMt (D + 1) k cs a' W2 _ _ (by omega) hM hl2 rfl)) ?_
    have fin : ∀ (jump : Option Code) (W3 : World), KeepsOthers (W2.putObj (D + 1) (.loop { rc .ready none with state := .busy })) W3 →
        ∃ r, W3.heap[D + 1]? = some (.loop r) ∧ (Instr.endRound (D + 1) jump).run P W3 = .ok (.bool jump.isNone) (W3.putObj (D + 1) (.loop (rc (if jump.isNone then .ready else .done) jump))) ∧
          (W3.putObj (D + 1) (.loop (rc (if jump.isNone then .ready else .done) jump))).heap[D + 1]? = some (.loop (rc (if jump.isNone then .ready else .done) jump)) ∧
          (W3.putObj (D + 1) (.loop (rc (if jump.isNone then .ready else .done) jump))).heap[D]? = some (.deferred (some [])) := fun jump W3 hk3 => by
      have h3 := hk3.same _ _ hl3 rfl
      have hr := run_endRound (P := P) jump h3
      rw [hrc] at hr ⊢
      exact ⟨_, h3, hr, World.putObj_heap_same (Array.getElem?_eq_some_iff.1 h3).1, (World.putObj_heap_other (by omega)).trans (hk3.same _ _ hd3 rfl)⟩
    rintro e a3 W3 hp
    cases e with
    | normal =>
      obtain ⟨r, hl4, hr, h4, h5⟩ := fin none W3 hp.1
      exact ⟨_, _, hr, .inl ⟨rfl, hIt _ W3 (D + 1) _ _ (by omega) hp.2 hl4 rfl, h4, h5⟩⟩
    | ret =>
      obtain ⟨r, hl4, hr, h4, h5⟩ := fin (some .ret) W3 hp.1
      exact ⟨_, _, hr, .inr ⟨rfl, .ret, hXt _ W3 (D + 1) _ _ (by omega) hp.2 hl4 rfl, h4, h5⟩⟩
    | exit id =>
      obtain ⟨r, hl4, hr, h4, h5⟩ := fin (some (.exit id)) W3 hp.1
      exact ⟨_, _, hr, .inr ⟨rfl, .exit id, hXt _ W3 (D + 1) _ _ (by omega) hp.2 hl4 rfl, h4, h5⟩⟩
    | goto t =>
      obtain ⟨r, hl4, hr, h4, h5⟩ := fin (some (.goto t)) W3 hp.1
      exact ⟨_, _, hr, .inr ⟨rfl, .goto t, hXt _ W3 (D + 1) _ _ (by omega) hp.2 hl4 rfl, h4, h5⟩⟩
    | panic ch => exact hp.elim
    | outgrown => exact hp.elim
  · rintro e W2 ⟨⟨v, rfl⟩, (⟨hi, hl, hd⟩ | ⟨c, hi, hl, hd⟩)⟩
    · exact ⟨none, _, by have h := run_endLoop (P := P) hl (by rw [hrc]; simp); rw [hrc] at h; exact h, hdone D _ (by omega) (hIt _ W2 (D + 1) _ _ (by omega) hi hl rfl) ((World.putObj_heap_other (by omega)).trans hd)⟩
    · exact ⟨some c, _, by have h := run_endLoop (P := P) hl (by rw [hrc]; simp); rw [hrc] at h; exact h, hstop D c _ (by omega) (hXt _ W2 (D + 1) _ _ (by omega) hi hl rfl) ((World.putObj_heap_other (by omega)).trans hd)⟩
end Go.Proofs.YtmdfgkfimlmmnaaDoor
namespace Go.Proofs.YtmdfgkfimlmmnaaDoor
open Go.RowKit Ex Mx
section
variable {Q : Nat → Prop} {w : World} {d : Nat} {cs : Array Value} {c : CardT}
theorem ReadsCQ.size (h : ReadsCQ Q w d cs c) : cs.size = 13 := by
  obtain ⟨_, _, _, _, _, _, A, cc, rfl, _⟩ := h
  simp [cardC, arr_size]
theorem ReadsCQ.one (h : ReadsCQ Q w d cs c) : cs.all (·.oneCell') = true := by
  obtain ⟨_, _, _, _, _, _, A, cc, rfl, _⟩ := h
  have h2 := arr_one .i64 6 c.cost
  simp only [cardC, Array.all_append, h2]; simp [Value.oneCell']
theorem ReadsCQ.info (h : ReadsCQ Q w d cs c) : (Tryd.prog.info? 27).map (·.size) = some cs.size := by rw [h.size]; exact size13
end
/-- Two boxes with two cards that read as c, in blocks apart from each other. -/
def Two (w4 : World) (c : CardT) (p q : Value) (W : World) : Prop :=
  ∃ (g5 g6 d1 d3 : Nat) (cs1 cs3 : Array Value) (Q1 Q3 : Nat → Prop), p = .pointer (some ⟨g5, 0, none⟩) ∧ q = .pointer (some ⟨g6, 0, none⟩) ∧ CdAt W g5 cs1 ∧ CdAt W g6 cs3 ∧ ReadsCQ Q1 W d1 cs1 c ∧ ReadsCQ Q3 W d3 cs3 c ∧
    Below w4.heap.size w4 W ∧ (∀ b, Q1 b → w4.heap.size ≤ b ∧ b < W.heap.size ∧ b ≠ g5 ∧ b ≠ g6 ∧ ¬ Q3 b) ∧ (∀ b, Q3 b → w4.heap.size ≤ b ∧ b < W.heap.size ∧ b ≠ g5 ∧ b ≠ g6) ∧ w4.heap.size ≤ g5
theorem two_fin {w4 W : World} {c : CardT} {g5 g6 d1 d3 : Nat} {cs1 cs3 : Array Value} {Q1 Q3 : Nat → Prop} (h1 : ReadsCQ Q1 W d1 cs1 c) (h3 : ReadsCQ Q3 W d3 cs3 c) (hx : CdAt W g5 zeroD) (hx' : CdAt W g6 zeroD) (hB : Below w4.heap.size w4 W)
    (hne : g5 ≠ g6) (hq1 : ∀ b, Q1 b → w4.heap.size ≤ b ∧ b < W.heap.size ∧ b ≠ g5 ∧ b ≠ g6 ∧ ¬ Q3 b) (hq3 : ∀ b, Q3 b → w4.heap.size ≤ b ∧ b < W.heap.size ∧ b ≠ g5 ∧ b ≠ g6) (hg5 : w4.heap.size ≤ g5) (hg6 : w4.heap.size ≤ g6) :
    Two w4 c (.pointer (some ⟨g5, 0, none⟩)) (.pointer (some ⟨g6, 0, none⟩)) ((W.setRow g5 cs1).setRow g6 cs3) := by
  have keep : ∀ b, b ≠ g5 → b ≠ g6 → ((W.setRow g5 cs1).setRow g6 cs3).heap[b]? = W.heap[b]? := fun b n1 n2 => (setRow_other _ _ _ _ n2).trans (setRow_other _ _ _ _ n1)
  refine ⟨g5, g6, d1, d3, cs1, cs3, Q1, Q3, rfl, rfl, ?_, ?_, h1.keep (fun b hb => keep b (hq1 b hb).2.2.1 (hq1 b hb).2.2.2.1) (fun _ h => h), h3.keep (fun b hb => keep b (hq3 b hb).2.2.1 (hq3 b hb).2.2.2) (fun _ h => h),
    below_setRow (below_setRow hB _ _ hg5) _ _ hg6, fun b hb => ?_, fun b hb => ?_, hg5⟩
  · exact (setRow_other _ _ _ _ hne).trans (setRow_heap _ _ _ _ _ _ hx)
  · exact setRow_heap _ _ _ _ _ _ ((setRow_other _ _ _ _ (Ne.symm hne)).trans hx')
  · have := hq1 b hb; simp only [setRow_size]; exact this
  · have := hq3 b hb; simp only [setRow_size]; exact this
/-- The shape of a list of effects whose numbers are written. -/
def SpI (Q : Nat → Prop) (w : World) (A2 : Option Addr) (k2 : Nat) : Prop := ∀ j, j < k2 → ∃ b2 o2, A2 = some ⟨b2, o2 * 5, none⟩ ∧ Q b2 ∧ (∃ cur, w.heap[b2]? = some (.cells cur 46 (0, 0))) ∧ ∃ n : Int, w.cell? ⟨b2, (o2 + j) * 5 + 1, none⟩ = some (.int .i64 n)
theorem SpI.set_ {Q : Nat → Prop} {w : World} {A2 : Option Addr} {k2 : Nat} (h : SpI Q w A2 k2) (g q : Nat) (x old : Int) (hold : w.cell? ⟨g, q, none⟩ = some (.int .i64 old)) : SpI Q (w.setCell ⟨g, q, none⟩ (.int .i64 x)) A2 k2 := fun j hj => by
  obtain ⟨b2, o2, g1, g2, g3, n, hn⟩ := h j hj
  refine ⟨b2, o2, g1, g2, typed_set g3 g q _, ?_⟩
  by_cases e : b2 = g ∧ (o2 + j) * 5 + 1 = q
  · obtain ⟨rfl, rfl⟩ := e
    exact ⟨x, World.cell?_setCell_same (h := hold) ..⟩
  · exact ⟨n, by rw [World.cell?_setCell_other (h := by intro h; injection h with h1 h2; exact e ⟨h1.symm, h2.symm⟩)]; exact hn⟩
/-- What stands while the first is written into. -/
structure LpS (w4 : World) (N : Nat) (c : CardT) (g5 g6 d3 : Nat) (cs1 cs3 : Array Value) (Q1 Q3 : Nat → Prop) (A : Option Addr) (W : World) : Prop where
  sp : SpC Q1 W A c.abs.length
  cd : CdAt W g5 cs1
  cd' : CdAt W g6 cs3
  rd : ReadsCQ Q3 W d3 cs3 c
  b : Below w4.heap.size w4 W
  sz : N ≤ W.heap.size
theorem LpS.set_ {w4 : World} {N : Nat} {c : CardT} {g5 g6 d3 : Nat} {cs1 cs3 : Array Value} {Q1 Q3 : Nat → Prop} {A : Option Addr} {W : World} (h : LpS w4 N c g5 g6 d3 cs1 cs3 Q1 Q3 A W) (hq : ∀ b, Q1 b → w4.heap.size ≤ b ∧ b ≠ g5 ∧ b ≠ g6 ∧ ¬ Q3 b)
    (g q : Nat) (x old : Int) (hg : Q1 g) (hold : W.cell? ⟨g, q, none⟩ = some (.int .i64 old))
    (hp : ((∃ cur, W.heap[g]? = some (.cells cur 48 (0, 0))) ∧ ∃ m, q = m * 14) ∨ ((∃ cur, W.heap[g]? = some (.cells cur 46 (0, 0))) ∧ ∃ m, q = m * 5 + 1)) :
    LpS w4 N c g5 g6 d3 cs1 cs3 Q1 Q3 A (W.setCell ⟨g, q, none⟩ (.int .i64 x)) := by
  obtain ⟨h1, h2, h3, h4⟩ := hq g hg
  have keep : ∀ b, b ≠ g → (W.setCell ⟨g, q, none⟩ (.int .i64 x)).heap[b]? = W.heap[b]? := fun b n => heap_setCell_other W ⟨g, q, none⟩ b _ (by simpa using n)
  exact ⟨h.sp.set_ g q x old hold hp, (keep _ (Ne.symm h2)).trans h.cd, (keep _ (Ne.symm h3)).trans h.cd', h.rd.keep (fun b hb => keep b (fun e => h4 (e ▸ hb))) (fun _ h => h), h.b.setCell h1 _, by simpa [World.setCell] using h.sz⟩
theorem SpC.keep {Q : Nat → Prop} {w w' : World} {A : Option Addr} {k : Nat} (h : SpC Q w A k) (hb : ∀ b, Q b → w'.heap[b]? = w.heap[b]?) : SpC Q w' A k := fun i hi => by
  obtain ⟨b, o, h1, h2, h3, h4, A2, k2, c2, h5, h6, h7⟩ := h i hi
  refine ⟨b, o, h1, h2, by rw [hb b h2]; exact h3, by rw [World.cell?_of_block (hb b h2)]; exact h4, A2, k2, c2, by rw [World.cell?_of_block (hb b h2)]; exact h5, h6, fun j hj => ?_⟩
  obtain ⟨b2, o2, g1, g2, g3, g4⟩ := h7 j hj
  exact ⟨b2, o2, g1, g2, by rw [hb b2 g2]; exact g3, by rw [World.cell?_of_block (hb b2 g2)]; exact g4⟩
theorem LpS.below {w4 : World} {N : Nat} {c : CardT} {g5 g6 d3 : Nat} {cs1 cs3 : Array Value} {Q1 Q3 : Nat → Prop} {A : Option Addr} {W W' : World} (h : LpS w4 N c g5 g6 d3 cs1 cs3 Q1 Q3 A W) (hb : Below W.heap.size W W') (h1 : ∀ b, Q1 b → b < W.heap.size) (h3 : ∀ b, Q3 b → b < W.heap.size) :
    LpS w4 N c g5 g6 d3 cs1 cs3 Q1 Q3 A W' :=
  ⟨h.sp.keep (fun b q => hb.block b (h1 b q)), h.cd.keep hb, h.cd'.keep hb, h.rd.keep (fun b q => hb.block b (h3 b q)) (fun _ q => q), keepB hb h.b, Nat.le_trans h.sz hb.size⟩
end Go.Proofs.YtmdfgkfimlmmnaaDoor
namespace Go.Proofs.YtmdfgkfimlmmnaaDoor
open Go.RowKit Go.Shelf Ex Mx Wx
attribute [local go_sem] Oper.semAt_some
/-- What reads as the k-th card in blocks made in the round. -/
def HandC (l k : Nat) (cs : Array Value) (W : World) : Prop := ∃ d, ReadsCQ (fun b => l < b ∧ b < W.heap.size) W d cs (tblC k) ∧ l < W.heap.size
/-- What the rounds keep of the world: all below z, and what was made in All's call (from w to w'). -/
def KeptAll (z w w' W : World) : Prop := Below z.heap.size z W ∧ w'.heap.size ≤ W.heap.size ∧ ∀ b, w.heap.size ≤ b → b < w'.heap.size → W.heap[b]? = w'.heap[b]?
/-- What All answers: an iterator of 120 rounds. -/
def AllSaid (z : World) : Prop := ∀ (w : World), Below z.heap.size z w →
  Calls Tryd.prog 15 #[] w fun e w' => Below w.heap.size w w' ∧ ∃ (gf : Nat) (lb : Array Value), e = .returned (.func (.func gf) #[] lb) ∧ (∀ args w, (callFunc gf args).run Tryd.prog w = .ok (.enter gf args) w) ∧
    Hands Fence.wide 5 Tryd.prog gf lb (fun k cs => #[.int .i64 (k : Int), .agg cs]) HandC 120 (KeptAll z w w')
theorem wpListIn_store_row {F : Fence} {n : Nat} {P : Program} {ops : Array Oper} {rest : List Oper} {o : Oper} {a : Act} {w : World} {Q : Exit → Act → World → Prop} (hgd : o.guard = none) (ty : TypeId) (x y : Operand) (ho : o.op = .store ty x y)
    (g : Nat) (cells : Array Value) (hx : a.eval x = .pointer (some ⟨g, 0, none⟩)) (hy : a.eval y = .agg cells)
    (t : TypeId) (old : Array Value) (hg : w.heap[g]? = some (.cells old t (0, 0))) (hi : (P.info? ty).map (·.size) = some cells.size)
    (hold : old.size = cells.size) (h1 : cells.all (·.oneCell') = true)
    (h : wpListIn F n P ops Q rest (a.put o.dst undef) (w.setRow g cells)) : wpListIn F n P ops Q (o :: rest) a w := by
  refine wpListIn_plain hgd fun K hK => ⟨fun f hf => by simp [Oper.about, ho] at hf, ?_⟩
  rw [Oper.semAt_eq _ _ _ (fun c => by rw [ho]; exact Op.noConfusion)]
  unfold execOp
  simp only [ho, hx, hy, Instr.storeAt, Instr.sureAddr, Sem.run_bind, Sem.run_pure, Result.andThen_ok, run_storeVar_row w g t ty old cells hg hi hold h1]
  exact hK _ _ h
theorem wantCdIn {F : Fence} {n : Nat} {ops : Array Oper} {rest : List Oper} {o : Oper} {a : Act} {w : World} {Q : Exit → Act → World → Prop} (hw : Region.wanted o (yielded ops a.tmps) = true) (x : Operand) (ho : o.op = .load 27 x) (g : Nat) (hx : a.eval x = .pointer (some ⟨g, 0, none⟩)) (cs : Array Value) (h : CdAt w g cs)
    (hs : (Tryd.prog.info? 27).map (·.size) = some cs.size) (hK : wpListIn F n Tryd.prog ops Q rest (a.put o.dst (.agg cs)) w) : wpListIn F n Tryd.prog ops Q (o :: rest) a w := by
  refine BigFrame.wpListIn_want hw fun K hK' => ⟨fun f hf => by simp [Oper.about, ho] at hf, ?_⟩
  rw [Oper.semAt_eq _ _ _ (fun c => by rw [ho]; exact Op.noConfusion)]
  unfold execOp
  simp only [ho, hx, Instr.loadAt, Instr.sureAddr, Sem.run_bind, Sem.run_pure, Result.andThen_ok, run_loadVar_row w g 27 27 cs (0, 0) _ h Tryd.underlying27 rfl hs]
  exact hK' _ _ hK
theorem zip2 (t : Array Value) (p q : Nat) (u v : Value) : (#[p, q].zip #[u, v]).foldl (fun t (p, v) => t.setIfInBounds p v) t = (t.setIfInBounds p u).setIfInBounds q v := by simp
/-- The law's boxes between the rounds: stop, the answer, next (in block b). -/
def RoundI (w w3 w4 : World) (b q : Nat) (r : Bool) (k : Nat) (W : World) : Prop := KeptAll w w3 w4 W ∧ W.heap[w.heap.size]? = some (.cells #[.int .i64 (q : Int)] 3 (0, 0)) ∧
  W.heap[w.heap.size + 1]? = some (.cells #[.bool r] 4 (0, 0)) ∧ W.heap[b]? = some (.cells #[.int .i64 (k : Int)] 3 (0, 0)) ∧ b < w3.heap.size
theorem RoundI.grows {w w3 w4 : World} {b q k : Nat} {r : Bool} : Grows (RoundI w w3 w4 b q r k) := by
  rintro A B ⟨⟨h1, h2, h3⟩, h4, h5, h6, h7⟩ hb
  have lt : ∀ {i : Nat} {o : Obj}, A.heap[i]? = some o → B.heap[i]? = some o := fun h => (hb.block _ (Array.getElem?_eq_some_iff.1 h).1).trans h
  exact ⟨⟨keepB hb h1, Nat.le_trans h2 hb.size, fun i hi hi2 => (hb.block i (by omega)).trans (h3 i hi hi2)⟩, lt h4, lt h5, lt h6, h7⟩
theorem RoundI.turns {w w3 w4 : World} {b q k : Nat} {r : Bool} (h0 : w.heap.size + 1 < w4.heap.size) (h34 : w3.heap.size ≤ w4.heap.size) : Turns w4.heap.size (RoundI w w3 w4 b q r k) := by
  rintro A l o o' hl ⟨⟨h1, h2, h3⟩, h4, h5, h6, h7⟩ ho hc
  have ot : ∀ {i : Nat}, i < w4.heap.size → (A.putObj l o').heap[i]? = A.heap[i]? := fun h => World.putObj_heap_other (by omega)
  have hsz : (A.putObj l o').heap.size = A.heap.size := by simp [World.putObj]
  exact ⟨⟨⟨h1.os, h1.tape, h1.output, by rw [hsz]; exact h1.size, fun i hi => (ot (by omega)).trans (h1.block i hi)⟩, by rw [hsz]; exact h2, fun i hi hi2 => (ot hi2).trans (h3 i hi hi2)⟩,
    (ot (by omega)).trans h4, (ot (by omega)).trans h5, (ot (by omega)).trans h6, h7⟩
/-- The law at the head of a round's body: the card in its box g, its parts between the loop's record and the box. -/
def RoundM (w w3 w4 : World) (b q : Nat) (x : Int) (gf : Nat) (lb : Array Value) (l k : Nat) (cs : Array Value) (a' : Act) (W : World) : Prop := ∃ g : Nat,
  a' = { tmps := #[.int .i64 x, .pointer (some ⟨w.heap.size, 0, none⟩), .pointer (some ⟨w.heap.size + 1, 0, none⟩), .pointer (some ⟨b, 0, none⟩), .int .i64 (k : Int), .pointer (some ⟨g, 0, none⟩), undef, undef, undef, undef, undef, undef, .bool true, .bool false,
    .int .i64 x, .int .u64 (IntKind.u64.wrap x), .int .u64 (q : Int), .int .i64 (q : Int), .func (.func gf) #[] lb, .int .i64 (k : Int), .agg cs, undef, undef, undef, undef, undef, undef, undef, undef, undef, undef, undef, undef, undef, undef, undef, undef, undef, undef, undef, undef, undef, undef, undef, undef, undef, undef, undef, undef, undef, undef, undef, undef, undef, undef, undef, undef, undef, undef, undef, undef, undef, undef, undef, undef, undef, undef, undef, undef, undef, undef, undef, undef, undef, undef, undef, undef, undef, undef, undef, undef, undef, undef, undef, undef, undef, undef, undef, undef, undef, undef, undef, undef, undef, undef, undef, undef, undef], defers := [] } ∧
  (q = 0 ∨ k < q) ∧ RoundI w w3 w4 b q false k W ∧ CdAt W g cs ∧ (∃ d, ReadsCQ (fun b => l < b ∧ b < g) W d cs (tblC k)) ∧ l < g
theorem RoundM.turns {w w3 w4 : World} {b q : Nat} {x : Int} {gf : Nat} {lb : Array Value} (h0 : w.heap.size + 1 < w4.heap.size) (h34 : w3.heap.size ≤ w4.heap.size) : ∀ (l k : Nat) (cs : Array Value) (a' : Act) (A : World) (o o' : Obj), w4.heap.size ≤ l →
    RoundM w w3 w4 b q x gf lb l k cs a' A → A.heap[l]? = some o → o.isCells = false → RoundM w w3 w4 b q x gf lb l k cs a' (A.putObj l o') := by
  rintro l k cs a' A ob o' hl ⟨g, h1, h2, h3, h4, ⟨d, h5⟩, h6⟩ ho hc
  exact ⟨g, h1, h2, RoundI.turns h0 h34 A l _ o' hl h3 ho hc, (World.putObj_heap_other (by omega)).trans h4, ⟨d, h5.keep (fun b hb => World.putObj_heap_other (by omega)) (fun _ hb => hb)⟩, h6⟩
def OutA (w4 W4 : World) (N : Nat) (c : CardT) (g5 g6 d3 : Nat) (cs1 cs3 : Array Value) (Q1 Q3 : Nat → Prop) (A : Option Addr) (i : Value) (wr : World) : Prop :=
  ∃ k : Nat, i = .int .i64 ((k : Nat) : Int) ∧ k ≤ c.abs.length ∧ LpS w4 N c g5 g6 d3 cs1 cs3 Q1 Q3 A wr ∧ KeepsOthers W4 wr
def InA (w4 W4 : World) (N : Nat) (c : CardT) (g5 g6 d3 : Nat) (cs1 cs3 : Array Value) (Q1 Q3 : Nat → Prop) (A A2 : Option Addr) (k2 c2 b q : Nat) (i : Value) (wr : World) : Prop :=
  ∃ j : Nat, i = .int .i64 ((j : Nat) : Int) ∧ j ≤ k2 ∧ LpS w4 N c g5 g6 d3 cs1 cs3 Q1 Q3 A wr ∧ SpI Q1 wr A2 k2 ∧ wr.cell? ⟨b, q, none⟩ = some (.slice A2 k2 c2) ∧ KeepsOthers W4 wr
theorem keepsOf {A B : World} (hb : Below A.heap.size A B) : KeepsOthers A B := ⟨hb.size, fun _ _ h _ => (hb.block _ (Array.getElem?_eq_some_iff.1 h).1).trans h⟩
theorem RoundI.next {w w3 w4 : World} {b q k : Nat} {r : Bool} {A : World} (h : RoundI w w3 w4 b q r k A) (hb : w.heap.size + 1 < b) : RoundI w w3 w4 b q r (k + 1) (A.setCell ⟨b, 0, none⟩ (.int .i64 ((k : Int) + 1))) := by
  rw [show (k : Int) + 1 = ((k + 1 : Nat) : Int) from by omega]
  obtain ⟨⟨h1, h2, h3⟩, h4, h5, h6, h7⟩ := h
  have ot : ∀ {i : Nat}, i ≠ b → (A.setCell ⟨b, 0, none⟩ (.int .i64 ((k + 1 : Nat) : Int))).heap[i]? = A.heap[i]? := fun n => heap_setCell_other A ⟨b, 0, none⟩ _ _ (by simpa using n)
  exact ⟨⟨h1.setCell (show w.heap.size ≤ b by omega) _, by simpa [World.setCell] using h2, fun i hi hi2 => (ot (by omega)).trans (h3 i hi hi2)⟩, (ot (by omega)).trans h4, (ot (by omega)).trans h5, heap_setCell_same A b 0 _ _ _ h6, h7⟩
def cutW (W : World) (m : Nat) : World := { W with heap := W.heap.extract 0 m }
theorem cutW_size {W : World} {m : Nat} (h : m ≤ W.heap.size) : (cutW W m).heap.size = m := by simp [cutW]; omega
theorem cutW_get {W : World} {m b : Nat} (h : b < m) : (cutW W m).heap[b]? = W.heap[b]? := by simp [cutW, Array.getElem?_extract]; omega
theorem cutW_below {W : World} {m : Nat} (h : m ≤ W.heap.size) : Below (cutW W m).heap.size (cutW W m) W := ⟨rfl, rfl, rfl, by rw [cutW_size h]; exact h, fun b hb => (cutW_get (by rw [cutW_size h] at hb; exact hb)).symm⟩
theorem RoundI.cut {w w3 w4 : World} {b q k m : Nat} {r : Bool} {A : World} (h : RoundI w w3 w4 b q r k A) (h0 : w.heap.size + 1 < w4.heap.size) (h34 : w3.heap.size ≤ w4.heap.size) (hm : w4.heap.size ≤ m) (hA : m ≤ A.heap.size) : RoundI w w3 w4 b q r k (cutW A m) := by
  obtain ⟨⟨h1, h2, h3⟩, h4, h5, h6, h7⟩ := h
  have hs := cutW_size hA
  exact ⟨⟨⟨h1.os, h1.tape, h1.output, by rw [hs]; omega, fun i hi => (cutW_get (by omega)).trans (h1.block i hi)⟩, by rw [hs]; exact hm, fun i hi hi2 => (cutW_get (by omega)).trans (h3 i hi hi2)⟩,
    (cutW_get (by omega)).trans h4, (cutW_get (by omega)).trans h5, (cutW_get (by omega)).trans h6, h7⟩
theorem ends_ {w W : World} {tmps : Array Value} (D : Nat) (hb : Below w.heap.size w W) (hD : W.heap[D]? = some (.deferred (some []))) (h0 : w.heap.size ≤ D) (hr : W.heap[w.heap.size + 1]? = some (.cells #[.bool false] 4 (0, 0)))
    (ht : tmps[2]? = some (.pointer (some ⟨w.heap.size + 1, 0, none⟩))) :
    bodyPostM Fence.wide 6 Tryd.prog Tryd.f4 (fun e w' => e = .returned (.bool true) ∧ Below w.heap.size w w') .ret { tmps := tmps, defers := [{ target := .collected D, args := #[] }] }
      (W.setCell ⟨w.heap.size + 1, 0, none⟩ (.bool true)) := by
  have hne : w.heap.size + 1 ≠ D := by rintro rfl; rw [hr] at hD; simp at hD
  have hD' : (W.setCell ⟨w.heap.size + 1, 0, none⟩ (.bool true)).heap[D]? = some (.deferred (some [])) := (heap_setCell_other W ⟨w.heap.size + 1, 0, none⟩ _ _ (by simpa using hne.symm)).trans hD
  have hr' := heap_setCell_same W (w.heap.size + 1) 0 _ _ (.bool true) hr
  refine ⟨by simp, .inl ⟨D, _, rfl, run_takeDeferred hD', ?_⟩⟩
  have hr2 := (World.putObj_heap_other (w := W.setCell ⟨w.heap.size + 1, 0, none⟩ (.bool true)) (o := .deferred none) (k := w.heap.size + 1) (r := D) hne).trans hr'
  have hb2 : Below w.heap.size w ((W.setCell ⟨w.heap.size + 1, 0, none⟩ (.bool true)).putObj D (.deferred none)) := by
    have h := hb.setCell (p := ⟨w.heap.size + 1, 0, none⟩) (Nat.le_succ _) (.bool true)
    exact ⟨h.os, h.tape, h.output, by simpa [World.putObj] using h.size, fun i hi => (World.putObj_heap_other (by omega)).trans (h.block i hi)⟩
  have c0 := cell_of_row _ (w.heap.size + 1) 0 #[.bool true] _ _ hr2
  simp only [LeavesInM, LeavesIn]
  refine ⟨.bool true, ?_, rfl, hb2⟩
  simp [results, Tryd.f4, go_sem, ht, c0]
set_option linter.unusedSimpArgs false in
set_option maxRecDepth 100000 in
set_option maxHeartbeats 1000000 in
theorem tableAll_walk {w : World} (R : ∀ (x : Int) (w : World), Calls Tryd.prog 9 #[.int .i64 x] w (CardQ (tblX x) (.bool (isN x)) w)) (S : TblSaid w) (V : AllSaid w) (x : Int) (_hx : In64 x) :
    Calls Tryd.prog 4 #[.int .i64 x] w fun e w' => e = .returned (.bool true) ∧ Below w.heap.size w w' := by
  refine (callsIn_wide (n := 6)).1 ?_
  refine callsIn_of_wp_marks Tryd.func4 rfl trivial ?_ rfl
  simp only [Tryd.ntmps4, List.size_toArray, List.length_cons, List.length_nil, Nat.reduceAdd, Nat.reduceSub, Array.replicate_succ, Array.replicate_zero, List.push_toArray, List.append_toArray, List.nil_append, List.cons_append]
  gi_wp2_with fail
  obtain ⟨w1, hw1⟩ : ∃ w1, w1 = (w.alloc (.cells #[.int .i64 x] 3)).alloc (.cells #[.bool false] 4) := ⟨_, rfl⟩
  have hb1 : Below w.heap.size w w1 := by rw [hw1]; exact ((Below.refl _ _).alloc (Nat.le_refl _) _).alloc (by simp) _
  have hx1 : w1.heap[w.heap.size]? = some (.cells #[.int .i64 x] 3 (0, 0)) := by
    rw [hw1]; exact (((Below.refl (w.heap.size + 1) _).alloc (by simp) _).block _ (by omega)).trans (heap_alloc_new w _)
  have hr1 : w1.heap[w.heap.size + 1]? = some (.cells #[.bool false] 4 (0, 0)) := by
    have h := heap_alloc_new (w.alloc (.cells #[.int .i64 x] 3)) (.cells #[.bool false] 4)
    rw [hw1]; simpa using h
  rw [← hw1]
  clear hw1
  refine ⟨trivial, (callsIn_wide.2 (tblAlive S w1 hb1)).mono ?_⟩
  rintro e w2 ⟨rfl, hb2⟩
  have hx2 := (hb2.block _ (Array.getElem?_eq_some_iff.1 hx1).1).trans hx1
  have hr2 := (hb2.block _ (Array.getElem?_eq_some_iff.1 hr1).1).trans hr1
  have hbw2 := keepB hb2 hb1
  have c0 : w2.cell? ⟨w.heap.size, 0, none⟩ = some (.int .i64 x) := cell_of_row w2 w.heap.size 0 _ _ _ hx2
  have f0 := frozen_of_row w2 w.heap.size 0 _ _ hx2
  obtain ⟨q, hq, hq121⟩ : ∃ q : Nat, (IntKind.u64.wrap x).tmod 121 = (q : Int) ∧ q < 121 := by
    have h0 : 0 ≤ IntKind.u64.wrap x := by simp only [IntKind.wrap, IntKind.bits, IntKind.signed]; simp; omega
    refine ⟨((IntKind.u64.wrap x).tmod 121).toNat, ?_, ?_⟩
    · rw [Int.tmod_eq_emod_of_nonneg h0]; omega
    · rw [Int.tmod_eq_emod_of_nonneg h0]; omega
  have hwq : wrap64 (q : Int) = (q : Int) := IntWalk.wrap64_in _ ⟨by omega, by omega⟩
  clear hb1 hb2 hx1 hr1
  gi_wp2_with fail
  obtain ⟨w3, hw3⟩ : ∃ w3, w3 = (w2.setCell ⟨w.heap.size, 0, none⟩ (.int .i64 (q : Int))).alloc (.cells #[.int .i64 0] 3) := ⟨_, rfl⟩
  have hq3 : w3.heap[w.heap.size]? = some (.cells #[.int .i64 (q : Int)] 3 (0, 0)) := by
    have h := heap_setCell_same w2 w.heap.size 0 _ _ (.int .i64 (q : Int)) hx2
    have hlt := (Array.getElem?_eq_some_iff.1 hx2).1
    rw [hw3]
    exact (((Below.refl w2.heap.size (w2.setCell ⟨w.heap.size, 0, none⟩ (.int .i64 (q : Int)))).alloc (by simp [World.setCell]) _).block _ hlt).trans h
  have hlt2 := (Array.getElem?_eq_some_iff.1 hr2).1
  have hr3 : w3.heap[w.heap.size + 1]? = some (.cells #[.bool false] 4 (0, 0)) := by
    rw [hw3]
    exact (((Below.refl w2.heap.size (w2.setCell ⟨w.heap.size, 0, none⟩ (.int .i64 (q : Int)))).alloc (by simp [World.setCell]) _).block _ hlt2).trans ((heap_setCell_other w2 ⟨w.heap.size, 0, none⟩ _ _ (by simp)).trans hr2)
  have hn3 : w3.heap[w2.heap.size]? = some (.cells #[.int .i64 0] 3 (0, 0)) := by
    have h := heap_alloc_new (w2.setCell ⟨w.heap.size, 0, none⟩ (.int .i64 (q : Int))) (.cells #[.int .i64 0] 3)
    rw [hw3]; simpa [World.setCell] using h
  have hbw3 : Below w.heap.size w w3 := by rw [hw3]; exact (hbw2.setCell (by simp) _).alloc (by simp [World.setCell]; omega) _
  rw [← hw3]
  clear hw3 hx2 hr2 c0 f0 hq hwq
  refine ⟨trivial, (callsIn_wide.2 (V w3 hbw3)).mono ?_⟩
  rintro e w4 ⟨hb4, gf, lb, rfl, heg, hH⟩
  have hq4 := (hb4.block _ (Array.getElem?_eq_some_iff.1 hq3).1).trans hq3
  have hr4 := (hb4.block _ (Array.getElem?_eq_some_iff.1 hr3).1).trans hr3
  have hn4 := (hb4.block _ (Array.getElem?_eq_some_iff.1 hn3).1).trans hn3
  have hbw4 := keepB hb4 hbw3
  have hn3s : w2.heap.size < w3.heap.size := (Array.getElem?_eq_some_iff.1 hn3).1
  have hs34 : w3.heap.size ≤ w4.heap.size := hb4.size
  have hs4 : w.heap.size + 1 < w4.heap.size := by omega
  clear hq3 hr3 hn3 hb4
  gi_wp2_with fail
  refine range_hands (F := Fence.wide) (n := 6) rfl (by omega) (gf := gf) (lb := lb) rfl trivial heg hH (fun _ _ => rfl)
    (fun k W => (q = 0 ∨ k < q) ∧ RoundI w w3 w4 w2.heap.size q false k W) (fun c W => c = .exit 0 ∧ RoundI w w3 w4 w2.heap.size q false q W)
    (RoundM w w3 w4 w2.heap.size q x gf lb) (fun k A B h hb => ⟨h.1, RoundI.grows A B h.2 hb⟩) (fun k A l o o' hl h => fun h2 h3 => ⟨h.1, RoundI.turns hs4 hs34 A l o o' hl h.2 h2 h3⟩) (fun c A B h hb => ⟨h.1, RoundI.grows A B h.2 hb⟩)
    (fun c A l o o' hl h => fun h2 h3 => ⟨h.1, RoundI.turns hs4 hs34 A l o o' hl h.2 h2 h3⟩) ?_ (fun k A h => h.2.1) ?_ ?_ ?_ ?_ ?_
  · exact RoundM.turns hs4 hs34
  · exact ⟨by omega, ⟨hbw4, Nat.le_refl _, fun _ _ _ => rfl⟩, hq4, hr4, hn4, hn3s⟩
  · rintro l k cs W K hl hk ⟨hq0, hI⟩ ⟨d, hd, hlW⟩ hK
    simp only [zip2, List.setIfInBounds_toArray, List.set_cons_succ, List.set_cons_zero]
    have hsx := cq_info hd
    have hcs := cq_size hd
    have h1 := cq_one hd
    have hnew : (W.alloc (.cells zeroD 27)).heap[W.heap.size]? = some (.cells zeroD 27 (0, 0)) := heap_alloc_new _ _
    gi_wp2_with (refine wpListIn_store_row rfl 27 (.tmp 5) (.tmp 20) rfl W.heap.size _ rfl rfl 27 zeroD hnew hsx (by rw [hcs]; rfl) h1 ?_)
    obtain ⟨W2, hW2, hC2, hb2⟩ := cd_box W (xs := cs)
    rw [← hW2]
    have hQ : ReadsCQ (fun b => l < b ∧ b < W.heap.size) W2 d cs (tblC k) := hd.keep (fun b h => hb2.block b h.2) (fun b h => h)
    exact hK _ _ ⟨W.heap.size, rfl, hq0, RoundI.grows W W2 hI hb2, hC2, ⟨d, hQ⟩, hlW⟩ (keepsOf hb2)
  · rintro l k cs a' W hl hk ⟨g, rfl, hq0, hI, hC, ⟨d, hd⟩, hlg⟩
    gi_wp2_with fail
    have hkX : tblX (k : Int) = tblC k := by unfold tblX; rw [if_pos (by omega)]; rfl
    have hsm : SmallC (tblC k) := by rw [← hkX]; exact tblX_small _
    refine ⟨trivial, (CallsIn.inRound l (callsIn_wide.2 (R k W))).mono ?_⟩
    rintro e W2 ⟨cs', rfl, hr', hb2⟩
    rw [hkX] at hr'
    have hsx := cq_info hd
    have hsx' := cq_info hr'
    have hcs' := cq_size hr'
    have h1' := cq_one hr'
    have hnew : (W2.alloc (.cells zeroD 27)).heap[W2.heap.size]? = some (.cells zeroD 27 (0, 0)) := heap_alloc_new _ _
    gi_upto_region 9 with (refine wpListIn_store_row rfl 27 (.tmp 6) (.tmp 24) rfl W2.heap.size _ rfl rfl 27 zeroD hnew hsx' (by rw [hcs']; rfl) h1' ?_)
    obtain ⟨W3, hW3, hC3', hb3⟩ := cd_box W2 (xs := cs')
    rw [← hW3]
    have hbW3 := keepB hb3 hb2
    have hC3 := hC.keep hbW3
    have hI3 := RoundI.grows W W3 hI hbW3
    have hlt3 := hC3.lt
    have hgW := hC.lt
    have hd3 : ReadsCQ (fun b => l < b ∧ b < g) W3 d cs (tblC k) := hd.keep (fun b hb => hbW3.block b (by omega)) (fun _ hb => hb)
    have hr3 : ReadsC W3.heap.size W3 d cs (tblC k) := hd3.reads (fun b hb => by omega)
    have hr3' := ((hr'.reads (B := W2.heap.size) (fun b h => h.2)).grow hb3)
    have hcard := cards_any d 2 (tblC k) (tblC k) cs cs' W3 hr3 hr3' hsm
    rw [sameC_refl] at hcard
    have cn : W3.cell? ⟨w2.heap.size, 0, none⟩ = some (.int .i64 (k : Int)) := cell_of_row W3 w2.heap.size 0 _ _ _ hI3.2.2.2.1
    clear hW3 hnew h1' hcs'
    gi_wp2_with (first
      | (refine wantCdIn (by rfl) (.tmp 5) rfl g rfl cs hC3 hsx ?_)
      | (refine wantCdIn (by rfl) (.tmp 6) rfl W2.heap.size rfl cs' hC3' hsx' ?_))
    refine ⟨trivial, (CallsIn.inRound l (callsIn_wide.2 hcard)).mono ?_⟩
    rintro e W4 ⟨rfl, hb4⟩
    clear hcard
    gi_upto_region 11 with fail
    obtain ⟨_, _, _, _, _, _, A1, cc1, hcs1, _, _, hx1⟩ := id hd3
    have hlW4 : l + 1 ≤ W4.heap.size := by have := hb4.size; omega
    have hsp := (hx1.shape hsm.2).keep (fun b (hb : l < b ∧ b < g) => hb4.block b (by omega))
    have hIt := (RoundI.grows W3 W4 hI3 hb4).cut hs4 hs34 (m := l + 1) (by omega) hlW4
    have hts := cutW_size hlW4
    obtain ⟨Wt, hWt⟩ : ∃ Wt, Wt = cutW W4 (l + 1) := ⟨_, rfl⟩
    rw [← hWt] at hIt hts
    have hr4' : ReadsCQ (fun b => W.heap.size ≤ b ∧ b < W2.heap.size) W4 2 cs' (tblC k) := hr'.keep (fun b hb => (keepB hb4 hb3).block b hb.2) (fun _ hb => hb)
    have HLs := Lib.hid (show LpS Wt W4.heap.size (tblC k) g W2.heap.size 2 cs cs' (fun b => l < b ∧ b < g) (fun b => W.heap.size ≤ b ∧ b < W2.heap.size) A1 W4 from
      ⟨hsp, hC3.keep hb4, hC3'.keep hb4, hr4', by rw [hWt]; exact cutW_below hlW4, Nat.le_refl _⟩)
    obtain ⟨c, hc⟩ : ∃ c, c = tblC k := ⟨_, rfl⟩
    obtain ⟨Q1, hQ1⟩ : ∃ Q1 : Nat → Prop, Q1 = fun b => l < b ∧ b < g := ⟨_, rfl⟩
    obtain ⟨Q3, hQ3⟩ : ∃ Q3 : Nat → Prop, Q3 = fun b => W.heap.size ≤ b ∧ b < W2.heap.size := ⟨_, rfl⟩
    have hW2s := hb2.size
    have hb3s := hb3.size
    have HQ1 := Lib.hid (show ∀ b, Q1 b → Wt.heap.size ≤ b ∧ b ≠ g ∧ b ≠ W2.heap.size ∧ ¬ Q3 b by rw [hQ1, hQ3]; intro b hb; refine ⟨by omega, by omega, by omega, fun h => by omega⟩)
    rw [← hc] at hcs1 hkX hsm HLs
    rw [← hQ1, ← hQ3] at HLs
    have HCs1 := Lib.hid hcs1
    have HSm := Lib.hid hsm
    have HKX := Lib.hid hkX
    have HIt := Lib.hid hIt
    have HI := Lib.hid hI
    have HWt := Lib.hid hWt
    have HQ3 := Lib.hid hQ3
    have hKO : KeepsOthers W W4 := keepsOf (keepB hb4 hbW3)
    have c12 : W4.cell? ⟨g, 12, none⟩ = some (.slice A1 c.abs.length cc1) := by rw [HLs.out.cd.cell, HCs1.out]; exact cd_abs
    clear hsp hx1 hcs1 hkX hsm hWt hQ1 hQ3 hc hr4' hIt hI hI3 hd hd3 hr' hr3 hr3' hC hC3 hC3' cn hb2 hb3 hbW3 hsx hlt3
    gi_upto_region 12 with fail
    clear c12
    gi_loopw [38] (fun i wr => OutA Wt W4 W4.heap.size c g W2.heap.size 2 cs cs' Q1 Q3 A1 i wr) (fun i _ => c.abs.length - (intOf i).toNat)
    case atStart => exact ⟨0, rfl, by omega, HLs.out, KeepsOthers.refl _⟩
    case round =>
      obtain ⟨i, rfl, hi, hL, hk1⟩ := hrel
      have HL := Lib.hid hL
      have hl9 := HSm.out.1
      clear hL HLs
      by_cases hlt : i < c.abs.length
      · have hd : decide ((i : Int) < (c.abs.length : Int)) = true := by simp; omega
        obtain ⟨b, o, rfl, hqb, htb, ⟨wh, hwh⟩, A2, k2, c2, hsl, hk2, hin⟩ := HL.out.sp i hlt
        rw [show (o + i) * 14 = o * 14 + i * 14 by omega] at hwh
        rw [show (o + i) * 14 + 13 = o * 14 + i * 14 + 13 by omega] at hsl
        have c12 : wr.cell? ⟨g, 12, none⟩ = some (.slice (some ⟨b, o * 14, none⟩) c.abs.length cc1) := by rw [HL.out.cd.cell, HCs1.out]; exact cd_abs
        have hfz : wr.frozen? ⟨b, o * 14 + i * 14, none⟩ = false := by obtain ⟨cur, hcur⟩ := htb; exact frozen_of_row wr b _ _ _ hcur
        have b0 : (0 : Int) ≤ (i : Int) := by omega
        have b1 : (i : Int) < (c.abs.length : Int) := by omega
        gi_upto_region 15 with fail
        obtain ⟨wn, hwn⟩ : ∃ W, W = wr.setCell ⟨b, o * 14 + i * 14, none⟩ (.int .i64 9) := ⟨_, rfl⟩
        have HLn := Lib.hid (show LpS Wt W4.heap.size c g W2.heap.size 2 cs cs' Q1 Q3 (some ⟨b, o * 14, none⟩) wn by rw [hwn]; exact HL.out.set_ HQ1.out b _ 9 wh hqb hwh (.inl ⟨htb, o + i, by omega⟩))
        have HIn := Lib.hid (show SpI Q1 wn A2 k2 by rw [hwn]; exact SpI.set_ hin b _ 9 wh hwh)
        have hkn : KeepsOthers W4 wn := by rw [hwn]; exact hk1.trans (KeepsOthers.setCell _ _ _)
        have hsl2 : wn.cell? ⟨b, o * 14 + i * 14 + 13, none⟩ = some (.slice A2 k2 c2) := by
          rw [hwn, World.cell?_setCell_other (h := by intro e; injection e with e1 e2; omega)]; exact hsl
        have HTb := Lib.hid htb
        have HQb := Lib.hid hqb
        rw [← hwn]
        clear hwn hwh hsl hin hfz c12 htb hqb HL
        have c12 : wn.cell? ⟨g, 12, none⟩ = some (.slice (some ⟨b, o * 14, none⟩) c.abs.length cc1) := by rw [HLn.out.cd.cell, HCs1.out]; exact cd_abs
        have hsl3 : wn.cell? ⟨b, o * 14 + i * 14 + 9 + 4, none⟩ = some (.slice A2 k2 c2) := hsl2
        have HSl := Lib.hid hsl2
        clear hsl2
        gi_upto_region 16 with fail
        clear c12 hsl3
        gi_loopw [54] (fun j wr => InA Wt W4 W4.heap.size c g W2.heap.size 2 cs cs' Q1 Q3 (some ⟨b, o * 14, none⟩) A2 k2 c2 b (o * 14 + i * 14 + 13) j wr) (fun j _ => k2 - (intOf j).toNat)
        case atStart => exact ⟨0, rfl, by omega, HLn.out, HIn.out, HSl.out, hkn⟩
        case round =>
          obtain ⟨j, rfl, hj, hL, hI, hsl, hk1⟩ := hrel
          have HL := Lib.hid hL
          have HI := Lib.hid hI
          have HS2 := Lib.hid hsl
          clear hL hI hsl HLn HIn HSl
          by_cases hlt2 : j < k2
          · have hd2 : decide ((j : Int) < (k2 : Int)) = true := by simp; omega
            obtain ⟨b2, o2, rfl, hq2, ht2, n, hn⟩ := HI.out j hlt2
            rw [show (o2 + j) * 5 + 1 = o2 * 5 + j * 5 + 1 by omega] at hn
            have c12 : wr.cell? ⟨g, 12, none⟩ = some (.slice (some ⟨b, o * 14, none⟩) c.abs.length cc1) := by rw [HL.out.cd.cell, HCs1.out]; exact cd_abs
            have hsl3 : wr.cell? ⟨b, o * 14 + i * 14 + 9 + 4, none⟩ = some (.slice (some ⟨b2, o2 * 5, none⟩) k2 c2) := HS2.out
            have hfz : wr.frozen? ⟨b2, o2 * 5 + j * 5 + 1, none⟩ = false := by obtain ⟨cur, hcur⟩ := ht2; exact frozen_of_row wr b2 _ _ _ hcur
            have g0 : (0 : Int) ≤ (j : Int) := by omega
            have g1 : (j : Int) < (k2 : Int) := by omega
            gi_upto_region 19 with fail
            obtain ⟨wn2, hwn⟩ : ∃ W, W = wr.setCell ⟨b2, o2 * 5 + j * 5 + 1, none⟩ (.int .i64 99) := ⟨_, rfl⟩
            have HLn := Lib.hid (show LpS Wt W4.heap.size c g W2.heap.size 2 cs cs' Q1 Q3 (some ⟨b, o * 14, none⟩) wn2 by rw [hwn]; exact HL.out.set_ HQ1.out b2 _ 99 n hq2 hn (.inr ⟨ht2, o2 + j, by omega⟩))
            have HIn := Lib.hid (show SpI Q1 wn2 (some ⟨b2, o2 * 5, none⟩) k2 by rw [hwn]; exact SpI.set_ HI.out b2 _ 99 n hn)
            have hkn2 : KeepsOthers W4 wn2 := by rw [hwn]; exact hk1.trans (KeepsOthers.setCell _ _ _)
            have HSl := Lib.hid (show wn2.cell? ⟨b, o * 14 + i * 14 + 13, none⟩ = some (.slice (some ⟨b2, o2 * 5, none⟩) k2 c2) by
              rw [hwn, World.cell?_setCell_other (h := by
                intro e
                injection e with e1 e2
                subst e1
                have h1 := HS2.out
                rw [← e2, hn] at h1
                simp at h1)]
              exact HS2.out)
            rw [← hwn]
            clear hwn hn hfz c12 hsl3 ht2 hq2 HL HI HS2
            gi_wp2_with fail
            go_roundw
            case rel => exact ⟨j + 1, by go_num, by omega, HLn.out, HIn.out, HSl.out, hkn2⟩
            case measure => simp [intOf]; omega
          · obtain rfl : j = k2 := by omega
            have hd2 : decide ((j : Int) < (j : Int)) = false := by simp
            gi_wp2_with fail
            go_roundw
            case rel => exact ⟨i + 1, by go_num, by omega, HL.out, hk1⟩
            case measure => simp [intOf]; omega
      · obtain rfl : i = c.abs.length := by omega
        have hd : decide ((c.abs.length : Int) < (c.abs.length : Int)) = false := by simp
        have hE6 := HL.out.cd'
        have hbr : Below w.heap.size w wr := (RoundI.grows Wt wr HIt.out HL.out.b).1.1
        gi_wp2_with fail
        refine ⟨trivial, (CallsIn.inRound l (callsIn_wide.2 (S.card (k : Int) wr ⟨by omega, by omega⟩ hbr))).mono ?_⟩
        rintro e W5 ⟨d5, cs5, rfl, hr5, hb5⟩
        rw [HKX.out] at hr5
        rw [show isN (k : Int) = true from decide_eq_true (by omega), if_pos rfl, errV_nil]
        have hsx5 := cq_info hr5
        have hcs5 := cq_size hr5
        have h15 := cq_one hr5
        have hnew : (W5.alloc (.cells zeroD 27)).heap[W5.heap.size]? = some (.cells zeroD 27 (0, 0)) := heap_alloc_new _ _
        gi_upto_region 22 with (refine wpListIn_store_row rfl 27 (.tmp 10) (.tmp 72) rfl W5.heap.size _ rfl rfl 27 zeroD hnew hsx5 (by rw [hcs5]; rfl) h15 ?_)
        obtain ⟨W6, hW6, hC6, hb6⟩ := cd_box W5 (xs := cs5)
        rw [← hW6]
        have hb56 := keepB hb6 hb5
        have hE66 := hE6.keep hb56
        have hwrs := HL.out.sz
        have hfin := cards_any d5 2 c c cs5 cs' W6 ((hr5.reads (B := W5.heap.size) (fun b h => h.2)).grow hb6)
          (((HL.out.rd.reads (B := wr.heap.size) (fun b hb => by have h := HQ3.out; subst h; have := hb.2; have := hb4.size; have := hb3s; omega)).grow hb56)) HSm.out
        rw [sameC_refl] at hfin
        clear hW6 hnew h15 hcs5
        gi_wp2_with (first
          | (refine wantCdIn (by rfl) (.tmp 10) rfl W5.heap.size rfl cs5 hC6 hsx5 ?_)
          | (refine wantCdIn (by rfl) (.tmp 6) rfl W2.heap.size rfl cs' hE66 hsx' ?_))
        refine ⟨trivial, (CallsIn.inRound l (callsIn_wide.2 hfin)).mono ?_⟩
        rintro e W7 ⟨rfl, hb7⟩
        have hb57 := keepB hb7 hb56
        have hI7 := RoundI.grows Wt W7 HIt.out (keepB hb57 HL.out.b)
        have hI8 := hI7.next (by omega)
        have cn : W7.cell? ⟨w2.heap.size, 0, none⟩ = some (.int .i64 (k : Int)) := cell_of_row W7 w2.heap.size 0 _ _ _ hI7.2.2.2.1
        have fn7 := frozen_of_row W7 w2.heap.size 0 _ _ hI7.2.2.2.1
        have hk8 : KeepsOthers W (W7.setCell ⟨w2.heap.size, 0, none⟩ (.int .i64 ((k : Int) + 1))) := ((hKO.trans hk1).trans (keepsOf hb57)).trans (KeepsOthers.setCell _ _ _)
        clear hfin
        gi_upto_region 25 with fail
        obtain ⟨W8, hW8⟩ : ∃ W8, W8 = W7.setCell ⟨w2.heap.size, 0, none⟩ (.int .i64 ((k : Int) + 1)) := ⟨_, rfl⟩
        rw [← hW8] at hI8 hk8 ⊢
        clear hW8 cn fn7
        have cn8 : W8.cell? ⟨w2.heap.size, 0, none⟩ = some (.int .i64 ((k + 1 : Nat) : Int)) := cell_of_row W8 w2.heap.size 0 _ _ _ hI8.2.2.2.1
        have cs8 : W8.cell? ⟨w.heap.size, 0, none⟩ = some (.int .i64 (q : Int)) := cell_of_row W8 w.heap.size 0 _ _ _ hI8.2.1
        by_cases hkq : k + 1 = q
        · subst hkq
          gi_wp2_with fail
          exact ⟨hk8, rfl, hI8⟩
        · have hd8 : decide (((k + 1 : Nat) : Int) = (q : Int)) = false := by simp; omega
          gi_wp2_with fail
          exact ⟨hk8, by omega, hI8⟩
  · rintro D W hD0 ⟨hq0, ⟨hK, g1, g2, g3, -⟩⟩ hD
    obtain rfl : q = 0 := by omega
    have c1 : W.cell? ⟨w.heap.size, 0, none⟩ = some (.int .i64 0) := cell_of_row W w.heap.size 0 _ _ _ g1
    have c2 : W.cell? ⟨w2.heap.size, 0, none⟩ = some (.int .i64 120) := cell_of_row W w2.heap.size 0 _ _ _ g3
    have c3 : W.cell? ⟨w.heap.size + 1, 0, none⟩ = some (.bool false) := cell_of_row W (w.heap.size + 1) 0 _ _ _ g2
    have f3 := frozen_of_row W (w.heap.size + 1) 0 _ _ g2
    gi_wp2_with fail
    exact ends_ D hK.1 hD (by omega) g2 rfl
  · rintro D c W hD0 ⟨rfl, ⟨hK, g1, g2, g3, -⟩⟩ hD
    have c1 : W.cell? ⟨w.heap.size, 0, none⟩ = some (.int .i64 (q : Int)) := cell_of_row W w.heap.size 0 _ _ _ g1
    have c2 : W.cell? ⟨w2.heap.size, 0, none⟩ = some (.int .i64 (q : Int)) := cell_of_row W w2.heap.size 0 _ _ _ g3
    have c3 : W.cell? ⟨w.heap.size + 1, 0, none⟩ = some (.bool false) := cell_of_row W (w.heap.size + 1) 0 _ _ _ g2
    have f3 := frozen_of_row W (w.heap.size + 1) 0 _ _ g2
    gi_wp2_with fail
    exact ends_ D hK.1 hD (by omega) g2 rfl
end Go.Proofs.YtmdfgkfimlmmnaaDoor
namespace Go.Proofs.YtmdfgkfimlmmnaaDoor
open Go.RowKit Go.Shelf Ex Mx Wx
attribute [local go_sem] Oper.semAt_some
set_option maxRecDepth 100000
set_option linter.unusedSimpArgs false in
set_option maxHeartbeats 1000000 in
theorem all_hands (B : World → Prop) : Hands Fence.wide 5 Tryd.prog 36 #[] (fun k cs => #[.int .i64 (k : Int), .agg cs]) HandC 120 B := by
  intro l J Jx W hl hJB hJg hJxg hY h0
  refine callsIn_of_wp Tryd.func36 rfl trivial ?_ rfl
  simp only [Tryd.ntmps36, List.size_toArray, List.length_cons, List.length_nil, Nat.reduceAdd, Nat.reduceSub, Array.replicate_succ, Array.replicate_zero, List.push_toArray, List.append_toArray, List.nil_append, List.cons_append]
  gi_upto_region 1 with fail
  gi_loopw [3] (fun i wr => ∃ k : Nat, i = .int .i64 ((k : Nat) : Int) ∧ k ≤ 120 ∧ J k wr) (fun i _ => 120 - (intOf i).toNat)
  case atStart => exact ⟨0, rfl, by omega, h0⟩
  case round =>
    obtain ⟨k, rfl, hk, hJ⟩ := hrel
    have hlr := (hJB k wr hJ).2
    by_cases hlt : k < 120
    · have d0 : decide ((k : Int) < 120) = true := by simp; omega
      have hm := made_any k wr hlt
      gi_wp2_with fail
      refine ⟨trivial, (callsIn_wide.2 hm).mono ?_⟩
      clear hm
      rintro e w1 ⟨cs, rfl, hr, hb1⟩
      obtain ⟨fn, tmps, assign, body, hy, hR⟩ := hY k cs w1 hlt (hJg k wr w1 hJ hb1) ⟨2, hr.keep (fun _ _ => rfl) (fun _ hb => ⟨Nat.lt_of_lt_of_le hlr hb.1, hb.2⟩), Nat.lt_of_lt_of_le hlr hb1.size⟩
      gi_wp2_with fail
      refine hR.mono ?_
      rintro e W2 (⟨rfl, hJ2⟩ | ⟨rfl, hJx⟩)
      · gi_wp2_with fail
        go_roundw
        case rel => exact ⟨k + 1, by go_num, by omega, hJ2⟩
        case measure => simp [intOf]; omega
      · gi_wp2_with fail
        refine bodyPost_ret (results_none rfl _ _ _) rfl ?_
        exact ⟨⟨_, rfl⟩, .inr hJx⟩
    · obtain rfl : k = 120 := by omega
      gi_wp2_with fail
      go_end0
      exact ⟨⟨_, rfl⟩, .inl hJ⟩
theorem all_said (z : World) : AllSaid z := by
  intro w hz
  go_enter Tryd.func15, Tryd.ntmps15
  go_wp2_with fail
  go_ret
  exact ⟨Below.refl _ _, 36, #[], rfl, enters_of Tryd.func36 (by kernel_rfl) rfl, all_hands _⟩
end Go.Proofs.YtmdfgkfimlmmnaaDoor
