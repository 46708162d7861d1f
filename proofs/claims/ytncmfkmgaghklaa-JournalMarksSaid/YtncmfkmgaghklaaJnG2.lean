/- A range over a function whose iterator hands memory to the round: what is handed may be known to read in the world at hand (H), and the caller's invariant grows with new blocks. Layer 13: the library's Backward over a list of events, as what it hands to a range's rounds. Layer 12: the code's Invert. Layer 13: the code's Invert. Layer 13: fields as keys of a map: arrays of three numbers. Layer 13: the code's small calls: whether an event parts spans, which field it sets. Layer 13: a span's net in the making: what came out, the sets, where each field's stands. Layer 13: the library's DeleteFunc and IndexFunc over a list of events of the call's own. Layer 13: the code's net of a span. Layer 13: a list of events that a call answers. Layer 13: the code's Net. Layer 14: the code's cut, Back, Fold. -/
import Derived.RangeFuncNested
import Derived.RangeFuncBound
import Derived.RangeFuncCalls
import Derived.RangeFuncLeaves
import Derived.Test.YtncmfkmgaghklaaRows
import Derived.Shelf.Abstract
import Derived.Shelf.RegionOpen
import Derived.WalkKit
import Derived.OwnWalkIn
import Derived.TacticsInMore
import Derived.LoopNIn
import Derived.LoopIn
import Derived.Sort.CutIn
import Derived.BigFrameIn
import Derived.Test.YtncmfkmgaghklaaNtEv2
import Derived.Test.YtncmfkmgaghklaaEvLe
import Derived.Deep.MidRow
import Derived.Test.YtncmfkmgaghklaaEvInv
import Derived.Test.YtncmfkmgaghklaaErr
import Derived.Test.YtncmfkmgaghklaaNtRfI
import Derived.Test.YtncmfkmgaghklaaNtOne
import Derived.Test.YtncmfkmgaghklaaNtEv
import Derived.Maps.OwnSet
import Derived.Maps.OwnOps
import Derived.Maps.Views
import Derived.DeepKeys4
import Derived.OwnWalk
import Derived.Test.YtncmfkmgaghklaaJnG1
import Derived.Laws.IdiomCopy
import Derived.Test.YtncmfkmgaghklaaNtNi
namespace Go.Proofs.Ytncmfkmgaghklaa
open Go Go.RowKit
/-- It stands when blocks are added. -/
def Grows (I : World → Prop) : Prop := ∀ A B, I A → Below A.heap.size A B → I B
/-- It stands when a block at m or above that holds no cells turns. -/
def Turns (m : Nat) (I : World → Prop) : Prop := ∀ (A : World) (l : Nat) (o o' : Obj), m ≤ l → I A → A.heap[l]? = some o → o.isCells = false → I (A.putObj l o')
/-- The iterator's contract: N rounds, in their order; each is handed k and what reads as H says (l: the loop's record: what is made in the rounds lies above it; B: what the rounds keep). -/
def Hands (F : Fence) (n : Nat) (P : Program) (g : Nat) (lb : Array Value) (enc : Nat → Array Value → Array Value) (H : Nat → Nat → Array Value → World → Prop) (N : Nat) (B : World → Prop) : Prop :=
  ∀ (l : Nat) (J : Nat → World → Prop) (Jx : World → Prop) (W : World), l < W.heap.size → (∀ k A, J k A → B A ∧ l < A.heap.size) → (∀ k, Grows (J k)) → Grows Jx →
    (∀ k cs W1, k < N → J k W1 → H l k cs W1 → YieldAt F (n - 1) P l (enc k cs) W1 fun e W' => (e = .returned (.bool true) ∧ J (k + 1) W') ∨ (e = .returned (.bool false) ∧ Jx W')) →
    J 0 W → CallsIn F n P g (#[.func (.yield l) #[] #[]] ++ lb) W fun e W' => (∃ v, e = .returned v) ∧ (J N W' ∨ Jx W')
/-- How a round may be left. -/
def roundEnd (I : Nat → World → Prop) (Ix : Code → World → Prop) (k : Nat) (W : World) : Exit → Act → World → Prop
  | .normal, _, W' => KeepsOthers W W' ∧ I k W'
  | .ret, _, W' => KeepsOthers W W' ∧ Ix .ret W'
  | .exit id, _, W' => KeepsOthers W W' ∧ Ix (.exit id) W'
  | .goto t, _, W' => KeepsOthers W W' ∧ Ix (.goto t) W'
  | .panic _, _, _ => False
  | .outgrown, _, _ => False
variable {F : Fence} {n : Nat} {P : Program}
theorem range_hands {g : Operand} {ps : Array Tmp} {assign body : Code} {Q : Exit → Act → World → Prop} {a : Act} {w : World}
    (hro : F.round = none) (h1 : 1 ≤ n) {gf : Nat} {lb : Array Value} (hg : a.eval g = .func (.func gf) #[] lb) (hFg : F.fn gf) (eg : ∀ args w, (callFunc gf args).run P w = .ok (.enter gf args) w)
    {enc : Nat → Array Value → Array Value} {H : Nat → Nat → Array Value → World → Prop} {N : Nat} {B : World → Prop} (hseq : Hands F (n - 1) P gf lb enc H N B) (hps : ∀ k cs, (enc k cs).size = ps.size)
    (I : Nat → World → Prop) (Ix : Code → World → Prop) (M : Nat → Nat → Array Value → Act → World → Prop)
    (hIg : ∀ k, Grows (I k)) (hIt : ∀ k, Turns w.heap.size (I k)) (hXg : ∀ c, Grows (Ix c)) (hXt : ∀ c, Turns w.heap.size (Ix c)) (hMt : ∀ (l k : Nat) (cs : Array Value) (a' : Act) (A : World) (o o' : Obj), w.heap.size ≤ l → M l k cs a' A → A.heap[l]? = some o → o.isCells = false → M l k cs a' (A.putObj l o')) (hIb : ∀ k A, I k A → B A) (h0 : I 0 w)
    (hassign : ∀ (l k : Nat) (cs : Array Value) (W : World) (K : Act → World → Prop), w.heap.size ≤ l → k < N → I k W → H l k cs W → (∀ a' W', M l k cs a' W' → KeepsOthers W W' → K a' W') →
      assign.wpIn (F.inRound l) (n - 1 - 1) P (Exit.then K (fun _ _ _ => False)) { tmps := (ps.zip (enc k cs)).foldl (fun t (p, v) => t.setIfInBounds p v) a.tmps, defers := [] } W)
    (hbody : ∀ (l k : Nat) (cs : Array Value) (a' : Act) (W : World), w.heap.size ≤ l → k < N → M l k cs a' W → body.wpIn (F.inRound l) (n - 1 - 1) P (roundEnd I Ix (k + 1) W) a' W)
    (hdone : ∀ (D : Nat) (W : World), w.heap.size ≤ D → I N W → W.heap[D]? = some (.deferred (some [])) → Q .normal { a with defers := { target := .collected D, args := #[] } :: a.defers } W)
    (hstop : ∀ (D : Nat) (c : Code) (W : World), w.heap.size ≤ D → Ix c W → W.heap[D]? = some (.deferred (some [])) → c.wpIn F n P Q { a with defers := { target := .collected D, args := #[] } :: a.defers } W) :
    (Code.rangeFunc g ps assign body).wpIn F n P Q a w := by
  refine wpIn_rangeFunc fun fn hfn => ?_
  rw [hro]
  obtain ⟨D, hD⟩ : ∃ D, D = w.heap.size := ⟨_, rfl⟩
  obtain ⟨rc, hrc⟩ : ∃ rc : LoopState → Option Code → Loop, rc = fun st pe => { state := st, pending := pe, fn, tmps := a.tmps, params := ps, assign, body, defers := D } := ⟨_, rfl⟩
  obtain ⟨W1, hW1⟩ : ∃ W1, (w.alloc (.deferred (some []))).alloc (.loop (rc .ready none)) = W1 := ⟨_, rfl⟩
  have hb1 : Below w.heap.size w W1 := by rw [← hW1]; exact ((Below.refl _ w).alloc (Nat.le_refl _) _).alloc (by simp) _
  have hL1 : W1.heap[D + 1]? = some (.loop (rc .ready none)) := by
    have h := World.alloc_heap_new (w.alloc (.deferred (some []))) (.loop (rc .ready none))
    rw [World.size_alloc, ← hD, hW1] at h
    exact h
  have hK1 : W1.heap[D]? = some (.deferred (some [])) := by
    rw [← hW1, hD]; exact (Below.heap_alloc _ _ _ (by simp)).trans (World.alloc_heap_new w _)
  refine ⟨D + 1, [{ target := .collected D, args := #[] }], W1, { target := .fn (.func gf) lb, args := #[.func (.yield (D + 1)) #[] #[]] }, W1, gf,
    #[.func (.yield (D + 1)) #[] #[]] ++ lb, W1, ?_, ?_, ?_, ?_, fun _ => h1, ?_⟩
  · rw [← hW1, hrc, hD]; exact run_enterLoop_outer _ _ _ _ _
  · simp only [resolve, hg]; simp [go_sem]
  · intro f' hf'; simp [Target.leads] at hf'; subst hf'; exact hFg
  · simp [invoke, go_sem, eg]
  -- the three facts that go from round to round
  have grow : ∀ {A B : World} {b : Nat} {o : Obj}, A.heap[b]? = some o → Below A.heap.size A B → B.heap[b]? = some o := fun {A B b o} h hb => (hb.block b (Array.getElem?_eq_some_iff.1 h).1).trans h
  refine (hseq (D + 1) (fun k W => I k W ∧ W.heap[D + 1]? = some (.loop (rc .ready none)) ∧ W.heap[D]? = some (.deferred (some [])))
    (fun W => ∃ c, Ix c W ∧ W.heap[D + 1]? = some (.loop (rc .done (some c))) ∧ W.heap[D]? = some (.deferred (some []))) W1 (Array.getElem?_eq_some_iff.1 hL1).1
    (fun k A h => ⟨hIb k A h.1, (Array.getElem?_eq_some_iff.1 h.2.1).1⟩) (fun k A B h hb => ⟨hIg k A B h.1 hb, grow h.2.1 hb, grow h.2.2 hb⟩) (fun A B ⟨c, h, h2, h3⟩ hb => ⟨c, hXg c A B h hb, grow h2 hb, grow h3 hb⟩) ?_ ⟨hIg 0 w W1 h0 hb1, hL1, hK1⟩).mono ?_
  · rintro k cs W hk ⟨hi, hl, hd⟩ hH
    have hy := run_yield (P := P) (args := enc k cs) hl (by rw [hrc]; exact hps k cs)
    rw [hrc] at hy
    refine ⟨fn, _, assign, body, hy, roundIn_of_wpIn hfn (hassign (D + 1) k cs W _ (by omega) hk hi hH fun a' W2 hM hk2 => ?_)⟩
    have hl2 := hk2.same _ _ hl rfl
    have hd2 := hk2.same _ _ hd rfl
    refine ⟨_, run_beginRound hl2 (by rw [hrc]), ?_⟩
    have hlt : D + 1 < W2.heap.size := (Array.getElem?_eq_some_iff.1 hl2).1
    have hl3 : (W2.putObj (D + 1) (.loop { rc .ready none with state := .busy })).heap[D + 1]? = some (.loop { rc .ready none with state := .busy }) := World.putObj_heap_same hlt
    have hd3 : (W2.putObj (D + 1) (.loop { rc .ready none with state := .busy })).heap[D]? = some (.deferred (some [])) := (World.putObj_heap_other (by omega)).trans hd2
    refine wpIn_mono (hbody (D + 1) k cs a' _ (by omega) hk (hMt (D + 1) k cs a' W2 _ _ (by omega) hM hl2 rfl)) ?_
    have fin : ∀ (jump : Option Code) (W3 : World), KeepsOthers (W2.putObj (D + 1) (.loop { rc .ready none with state := .busy })) W3 →
        ∃ r, W3.heap[D + 1]? = some (.loop r) ∧ (Instr.endRound (D + 1) jump).run P W3 = .ok (.bool jump.isNone) (W3.putObj (D + 1) (.loop (rc (if jump.isNone then .ready else .done) jump))) ∧
          (W3.putObj (D + 1) (.loop (rc (if jump.isNone then .ready else .done) jump))).heap[D + 1]? = some (.loop (rc (if jump.isNone then .ready else .done) jump)) ∧
          (W3.putObj (D + 1) (.loop (rc (if jump.isNone then .ready else .done) jump))).heap[D]? = some (.deferred (some [])) := fun jump W3 hk3 => by
      have h3 := hk3.same _ _ hl3 rfl
      have hr := run_endRound (P := P) jump h3
      rw [hrc] at hr ⊢
      exact ⟨_, h3, hr, World.putObj_heap_same (Array.getElem?_eq_some_iff.1 h3).1, (World.putObj_heap_other (by omega)).trans (hk3.same _ _ hd3 rfl)⟩
    rintro e a3 W3 hp
    cases e with
    | normal =>
      obtain ⟨r, hl4, hr, h4, h5⟩ := fin none W3 hp.1
      exact ⟨_, _, hr, .inl ⟨rfl, hIt _ W3 (D + 1) _ _ (by omega) hp.2 hl4 rfl, h4, h5⟩⟩
    | ret =>
      obtain ⟨r, hl4, hr, h4, h5⟩ := fin (some .ret) W3 hp.1
      exact ⟨_, _, hr, .inr ⟨rfl, .ret, hXt _ W3 (D + 1) _ _ (by omega) hp.2 hl4 rfl, h4, h5⟩⟩
    | exit id =>
      obtain ⟨r, hl4, hr, h4, h5⟩ := fin (some (.exit id)) W3 hp.1
      exact ⟨_, _, hr, .inr ⟨rfl, .exit id, hXt _ W3 (D + 1) _ _ (by omega) hp.2 hl4 rfl, h4, h5⟩⟩
    | goto t =>
      obtain ⟨r, hl4, hr, h4, h5⟩ := fin (some (.goto t)) W3 hp.1
      exact ⟨_, _, hr, .inr ⟨rfl, .goto t, hXt _ W3 (D + 1) _ _ (by omega) hp.2 hl4 rfl, h4, h5⟩⟩
    | panic ch => exact hp.elim
    | outgrown => exact hp.elim
  · rintro e W2 ⟨⟨v, rfl⟩, (⟨hi, hl, hd⟩ | ⟨c, hi, hl, hd⟩)⟩
    · exact ⟨none, _, by have h := run_endLoop (P := P) hl (by rw [hrc]; simp); rw [hrc] at h; exact h, hdone D _ (by omega) (hIt _ W2 (D + 1) _ _ (by omega) hi hl rfl) ((World.putObj_heap_other (by omega)).trans hd)⟩
    · exact ⟨some c, _, by have h := run_endLoop (P := P) hl (by rw [hrc]; simp); rw [hrc] at h; exact h, hstop D c _ (by omega) (hXt _ W2 (D + 1) _ _ (by omega) hi hl rfl) ((World.putObj_heap_other (by omega)).trans hd)⟩
end Go.Proofs.Ytncmfkmgaghklaa
namespace Go.Proofs.Ytncmfkmgaghklaa
open Go.RowKit Go.Shelf Ex
attribute [local go_sem] Oper.semAt_some
set_option maxRecDepth 100000
theorem load_evmIn {F : Fence} {n : Nat} {ops : Array Oper} {rest : List Oper} {op : Oper} {a : Act} {w : World} {Q : Exit → Act → World → Prop} (hgd : op.guard = none) (x : Operand) (ho : op.op = .load 41 x)
    (b o : Nat) (hx : a.eval x = .pointer (some ⟨b, o, none⟩)) (e : EvT) (h : w.rangeAt b o (evC e).toList)
    (hK : wpListIn F n Try.prog ops Q rest (a.put op.dst (evV e)) w) : wpListIn F n Try.prog ops Q (op :: rest) a w := by
  refine wpListIn_plain hgd fun K hK' => ⟨fun f hf => by simp [Oper.about, ho] at hf, ?_⟩
  rw [Oper.semAt_eq _ _ _ (fun c => by rw [ho]; exact Op.noConfusion)]
  unfold execOp
  have hs := ev_size e
  rw [← Array.length_toList] at hs
  have hr := run_loadVar_mid (P := Try.prog) w b o 41 (evC e).toList _ h Try.underlying41 rfl hs
  rw [Array.toArray_toList] at hr
  simp only [ho, hx, Instr.loadAt, Instr.sureAddr, Sem.run_bind, Sem.run_pure, Result.andThen_ok, hr]
  exact hK' _ _ hK
theorem store_evIn {F : Fence} {n : Nat} {ops : Array Oper} {rest : List Oper} {op : Oper} {a : Act} {w : World} {Q : Exit → Act → World → Prop} (hgd : op.guard = none) (x y : Operand) (ho : op.op = .store 41 x y)
    (g : Nat) (e : EvT) (hx : a.eval x = .pointer (some ⟨g, 0, none⟩)) (hy : a.eval y = evV e) (old : Array Value) (hg : w.heap[g]? = some (.cells old 41 (0, 0))) (hold : old.size = 6)
    (hK : wpListIn F n Try.prog ops Q rest (a.put op.dst undef) (w.setRow g (evC e))) : wpListIn F n Try.prog ops Q (op :: rest) a w := by
  refine wpListIn_plain hgd fun K hK' => ⟨fun f hf => by simp [Oper.about, ho] at hf, ?_⟩
  rw [Oper.semAt_eq _ _ _ (fun c => by rw [ho]; exact Op.noConfusion)]
  unfold execOp
  have hsz := ev_size e
  have hone := evC_one e
  have h6 : old.size = (evC e).size := hold
  have hy2 : a.eval y = .agg (evC e) := hy
  generalize evC e = es at hsz hone h6 hy2 hK
  simp only [ho, hx, hy2, Instr.storeAt, Instr.sureAddr, Sem.run_bind, Sem.run_pure, Result.andThen_ok, run_storeVar_row w g 41 41 old es hg hsz h6 hone]
  exact hK' _ _ hK
theorem handsV_mono {F : Fence} {n : Nat} {P : Program} {g : Nat} {lb : Array Value} {enc : Nat → Array Value → Array Value} {H : Nat → Nat → Array Value → World → Prop} {N : Nat} {B B' : World → Prop} (h : Hands F n P g lb enc H N B) (hB : ∀ W, B' W → B W) : Hands F n P g lb enc H N B' :=
  fun l J Jx W hl hJ => h l J Jx W hl (fun k A hA => ⟨hB _ (hJ k A hA).1, (hJ k A hA).2⟩)
/-- The box of the slice, and what it reads as. -/
structure SeenV (w : World) (bx : Nat) (A : Option Addr) (n c : Nat) (l : List EvT) : Prop where
  box : w.heap[bx]? = some (.cells #[.slice A n c] 31 (0, 0))
  N : RdV w.heap.size w A l
theorem SeenV.keep {w w' : World} {bx : Nat} {A : Option Addr} {n c : Nat} {l : List EvT} (h : SeenV w bx A n c l) (hb : Below w.heap.size w w') : SeenV w' bx A n c l :=
  ⟨(hb.block bx (Array.getElem?_eq_some_iff.1 h.box).1).trans h.box, (h.N.below hb).more hb.size⟩
/-- The k-th from the back. -/
def bkE (l : List EvT) (k : Nat) : EvT := l.reverse.getD k ev0
set_option linter.unusedSimpArgs false in
set_option maxHeartbeats 1000000 in
theorem backV_hands {bx : Nat} {A : Option Addr} {n c : Nat} {l : List EvT} (hln : l.length = n) (hn : n ≤ 1000000) :
    Hands Fence.wide 5 Try.prog 60 #[.pointer (some ⟨bx, 0, none⟩)] (fun k _ => #[.int .i64 ((n : Int) - 1 - (k : Int)), evV (bkE l k)]) (fun _ _ _ _ => True) n (fun W => SeenV W bx A n c l) := by
  intro lp J Jx W hl hJB hJg hJxg hY h0
  have cb : W.cell? ⟨bx, 0, none⟩ = some (.slice A n c) := by rw [cell_of_row W bx 0 _ _ _ (hJB 0 W h0).1.box]; rfl
  have e1 : IntKind.i64.wrap ((n : Int) - 1) = (n : Int) - 1 := i64_in (by omega) (by omega)
  refine callsIn_of_wp Try.func60 rfl trivial ?_ rfl
  simp only [Try.ntmps60, List.size_toArray, List.length_cons, List.length_nil, Nat.reduceAdd, Nat.reduceSub, Array.replicate_succ, Array.replicate_zero, List.push_toArray, List.append_toArray, List.nil_append, List.cons_append]
  gi_upto_region 1 with fail
  clear cb
  gi_loopw [3] (fun i wr => ∃ (k : Nat) (j : Int), i = .int .i64 j ∧ j = (n : Int) - 1 - (k : Int) ∧ k ≤ n ∧ J k wr) (fun i _ => (intOf i + 1).toNat)
  case atStart => exact ⟨0, _, rfl, by omega, by omega, h0⟩
  case round =>
    obtain ⟨k, j, rfl, hj, hk, hJ⟩ := hrel
    have hlr := (hJB k wr hJ).2
    by_cases hlt : k < n
    · obtain ⟨p, hp⟩ : ∃ p : Nat, p = n - 1 - k := ⟨_, rfl⟩
      obtain rfl : j = (p : Int) := by omega
      have d0 : decide (0 ≤ (p : Int)) = true := by simp
      have hS := (hJB k wr hJ).1
      obtain ⟨b1, o1, ea, _, g1⟩ := hS.N.at_ (show p < l.length by omega)
      subst ea
      have cb : wr.cell? ⟨bx, 0, none⟩ = some (.slice (some ⟨b1, o1, none⟩) n c) := by rw [cell_of_row wr bx 0 _ _ _ hS.box]; rfl
      obtain ⟨v, hv⟩ : ∃ v, v = bkE l k := ⟨_, rfl⟩
      rw [show l[p]'(by omega) = v by
        rw [hv]; unfold bkE
        rw [List.getD_eq_getElem?_getD, List.getElem?_reverse (by omega), List.getElem?_eq_getElem (by omega), Option.getD_some]
        congr 1; omega] at g1
      have g0 : (0 : Int) ≤ (p : Int) := by omega
      have g2 : (p : Int) < (n : Int) := by omega
      obtain ⟨fn, tmps, assign, body, hy, hR⟩ := hY k #[] wr hlt hJ trivial
      rw [← hv, ← hj] at hy
      have e2 : IntKind.i64.wrap ((p : Int) - 1) = (p : Int) - 1 := i64_in (by omega) (by omega)
      have HP := Lib.hid hp
      have G1 := Lib.hid g1
      clear hv hp hj hS g1
      gi_wp2_with (refine load_evmIn rfl (.tmp 15) rfl b1 (o1 + p * 6) rfl v G1.out ?_)
      refine hR.mono ?_
      rintro e W2 (⟨rfl, hJ2⟩ | ⟨rfl, hJx⟩)
      · gi_wp2_with fail
        go_roundw
        case rel => exact ⟨k + 1, _, rfl, by have := HP.out; omega, by omega, hJ2⟩
        case measure => simp [intOf]
      · gi_wp2_with fail
        refine bodyPost_ret (results_none rfl _ _ _) rfl ?_
        exact ⟨⟨_, rfl⟩, .inr hJx⟩
    · obtain rfl : k = n := by omega
      have d0 : decide (0 ≤ j) = false := by simp; omega
      clear hj
      gi_wp2_with fail
      go_end0
      exact ⟨⟨_, rfl⟩, .inl hJ⟩
theorem backV_any (A : Option Addr) (n c : Nat) (l : List EvT) (w : World) (hN : RdV w.heap.size w A l) (hln : l.length = n) (hn : n ≤ 1000000) :
    Calls Try.prog 49 #[.slice A n c] w fun e w' => Below w.heap.size w w' ∧ ∃ (gf : Nat) (lb : Array Value), e = .returned (.func (.func gf) #[] lb) ∧ (∀ args w, (callFunc gf args).run Try.prog w = .ok (.enter gf args) w) ∧
      Hands Fence.wide 5 Try.prog gf lb (fun k _ => #[.int .i64 ((n : Int) - 1 - (k : Int)), evV (bkE l k)]) (fun _ _ _ _ => True) n (fun W => SeenV W w.heap.size A n c l) ∧ SeenV w' w.heap.size A n c l := by
  have hb : Below w.heap.size w (w.alloc (.cells #[.slice A n c] 31)) := (Below.refl _ _).alloc (Nat.le_refl _) _
  have hS : SeenV (w.alloc (.cells #[.slice A n c] 31)) w.heap.size A n c l := ⟨heap_alloc_new _ _, (hN.below hb).more hb.size⟩
  go_enter Try.func49, Try.ntmps49
  go_wp2_with fail
  go_ret
  exact ⟨hb, 60, _, rfl, enters_of Try.func60 (by kernel_rfl) rfl, backV_hands hln hn, hS⟩
end Go.Proofs.Ytncmfkmgaghklaa
namespace Go.Proofs.Ytncmfkmgaghklaa
open Go.RowKit Ex
set_option maxRecDepth 100000
set_option linter.unusedSimpArgs false in
set_option maxHeartbeats 0 in
theorem inv_code (e : EvT) (w : World) : Calls Try.prog 50 #[evV e] w fun en w' => en = .returned (evV (invE e)) ∧ Below w.heap.size w w' := by
  obtain ⟨r, hr⟩ : ∃ r, r = invE e := ⟨_, rfl⟩
  rw [← hr]
  obtain ⟨k, a, b, c, d, f⟩ := e
  unfold evV
  simp only
  go_enter Try.func50, Try.ntmps50
  go_upto_region 1 with fail
  obtain ⟨w2, hw2⟩ : ∃ w2, w2 = (w.alloc (.cells (evC ⟨k, a, b, c, d, f⟩) 41)).alloc (.cells (evC ev0) 41) := ⟨_, rfl⟩
  have hb1 : Below (w.alloc (.cells (evC ⟨k, a, b, c, d, f⟩) 41)).heap.size (w.alloc (.cells (evC ⟨k, a, b, c, d, f⟩) 41)) w2 := by rw [hw2]; exact (Below.refl _ _).alloc (Nat.le_refl _) _
  have hb0 : Below w.heap.size w (w.alloc (.cells (evC ⟨k, a, b, c, d, f⟩) 41)) := (Below.refl _ _).alloc (Nat.le_refl _) _
  have hE1 : EvB w2 w.heap.size ⟨k, a, b, c, d, f⟩ := EvB.keep (heap_alloc_new _ _) hb1
  have hE2 : EvB w2 (w.heap.size + 1) ev0 := by rw [hw2]; have := heap_alloc_new (w.alloc (.cells (evC ⟨k, a, b, c, d, f⟩) 41)) (.cells (evC ev0) 41); rwa [World.size_alloc] at this
  have hb2 := keepB hb1 hb0
  show Code.wp _ _ _ _ ((w.alloc (.cells (evC ⟨k, a, b, c, d, f⟩) 41)).alloc (.cells (evC ev0) 41))
  rw [← hw2]
  clear hw2 hb1 hb0
  obtain ⟨g1, hg1⟩ : ∃ g, g = w.heap.size := ⟨_, rfl⟩
  obtain ⟨g2, hg2⟩ : ∃ g, g = w.heap.size + 1 := ⟨_, rfl⟩
  rw [← hg1] at hE1
  rw [← hg2] at hE2
  rw [← hg1]
  try rw [show g1 + 1 = g2 by omega]
  have hwg1 : w.heap.size ≤ g1 := by omega
  have hwg2 : w.heap.size ≤ g2 := by omega
  have hne : g2 ≠ g1 := by omega
  clear hg1 hg2
  obtain ⟨c0, c1, c2, c3, c4, c5⟩ := hE1.cells
  simp only at c0 c1 c2 c3 c4 c5
  have f0 := frozen_of_row w2 g1 0 _ _ hE1
  by_cases hk : k = 0
  · subst hk
    have HI := Lib.hid (show r = ⟨5, a, b, c, d, f⟩ from hr)
    clear hr
    go_upto_region 12 with fail
    have hS := hE1.set_ 0 (.int .i64 5) (e' := ⟨5, a, b, c, d, f⟩) rfl
    have hZ := hE2.far hne 0 (.int .i64 5)
    have hbS := hb2.setCell (p := ⟨g1, 0, none⟩) hwg1 (.int .i64 5)
    clear c0 c1 c2 c3 c4 c5 f0
    unfold EvB at hS hZ
    have hsz3 := ev_size (⟨5, a, b, c, d, f⟩)
    have hone3 := evC_one (⟨5, a, b, c, d, f⟩)
    have hs36 : (evC ev0).size = (evC (⟨5, a, b, c, d, f⟩)).size := rfl
    obtain ⟨es, hes⟩ : ∃ es, es = evC (⟨5, a, b, c, d, f⟩) := ⟨_, rfl⟩
    have HEs := Lib.hid hes
    rw [← hes] at hS hsz3 hone3 hs36
    clear hes
    go_wp2_with (first
      | (refine wpList_load_row rfl 41 (.tmp 1) rfl g1 rfl 41 _ (0, 0) _ hS Try.underlying41 rfl hsz3 ?_)
      | (refine wpList_store_row rfl 41 (.tmp 2) (.tmp 35) rfl g2 _ rfl rfl 41 (evC ev0) hZ hsz3 hs36 hone3 ?_))
    refine bodyPost_ret (v := .agg es) ?_ rfl ⟨by rw [HI.out, HEs.out]; rfl, below_setRow hbS _ _ hwg2⟩
    exact results_cellE (ty := 41) (p := 2) (by kernel_rfl) _ _ g2 41 _ (0, 0) _ rfl (setRow_heap _ _ _ _ _ _ hZ) Try.underlying41 rfl hsz3
  by_cases hk5 : k = 5
  · subst hk5
    have HI := Lib.hid (show r = ⟨0, a, b, c, d, f⟩ from hr)
    clear hr
    go_upto_region 12 with fail
    have hS := hE1.set_ 0 (.int .i64 0) (e' := ⟨0, a, b, c, d, f⟩) rfl
    have hZ := hE2.far hne 0 (.int .i64 0)
    have hbS := hb2.setCell (p := ⟨g1, 0, none⟩) hwg1 (.int .i64 0)
    clear c0 c1 c2 c3 c4 c5 f0
    unfold EvB at hS hZ
    have hsz3 := ev_size (⟨0, a, b, c, d, f⟩)
    have hone3 := evC_one (⟨0, a, b, c, d, f⟩)
    have hs36 : (evC ev0).size = (evC (⟨0, a, b, c, d, f⟩)).size := rfl
    obtain ⟨es, hes⟩ : ∃ es, es = evC (⟨0, a, b, c, d, f⟩) := ⟨_, rfl⟩
    have HEs := Lib.hid hes
    rw [← hes] at hS hsz3 hone3 hs36
    clear hes
    go_wp2_with (first
      | (refine wpList_load_row rfl 41 (.tmp 1) rfl g1 rfl 41 _ (0, 0) _ hS Try.underlying41 rfl hsz3 ?_)
      | (refine wpList_store_row rfl 41 (.tmp 2) (.tmp 35) rfl g2 _ rfl rfl 41 (evC ev0) hZ hsz3 hs36 hone3 ?_))
    refine bodyPost_ret (v := .agg es) ?_ rfl ⟨by rw [HI.out, HEs.out]; rfl, below_setRow hbS _ _ hwg2⟩
    exact results_cellE (ty := 41) (p := 2) (by kernel_rfl) _ _ g2 41 _ (0, 0) _ rfl (setRow_heap _ _ _ _ _ _ hZ) Try.underlying41 rfl hsz3
  by_cases hk1 : k = 1
  · subst hk1
    have HI := Lib.hid (show r = ⟨1, a, d, f, b, c⟩ from hr)
    clear hr
    have hA := hE1.set_ 2 (.int .i64 d) (e' := ⟨1, a, d, c, d, f⟩) rfl
    have hB := hA.set_ 3 (.int .i64 f) (e' := ⟨1, a, d, f, d, f⟩) rfl
    have hC := hB.set_ 4 (.int .i64 b) (e' := ⟨1, a, d, f, b, f⟩) rfl
    have f2 := frozen_of_row _ g1 2 _ _ hE1
    have f3 := frozen_of_row _ g1 3 _ _ hA
    have f4 := frozen_of_row _ g1 4 _ _ hB
    have f5 := frozen_of_row _ g1 5 _ _ hC
    have x3 := hA.cells.2.2.2.1
    have x4 := hB.cells.2.2.2.2.1
    have x5 := hC.cells.2.2.2.2.2
    simp only at x3 x4 x5
    go_upto_region 12 with fail
    have hS := hC.set_ 5 (.int .i64 c) (e' := ⟨1, a, d, f, b, c⟩) rfl
    have hZ := (((hE2.far hne 2 (.int .i64 d)).far hne 3 (.int .i64 f)).far hne 4 (.int .i64 b)).far hne 5 (.int .i64 c)
    have hbS := (((hb2.setCell (p := ⟨g1, 2, none⟩) hwg1 (.int .i64 d)).setCell (p := ⟨g1, 3, none⟩) hwg1 (.int .i64 f)).setCell (p := ⟨g1, 4, none⟩) hwg1 (.int .i64 b)).setCell (p := ⟨g1, 5, none⟩) hwg1 (.int .i64 c)
    clear c0 c1 c2 c3 c4 c5 f0 f2 f3 f4 f5 x3 x4 x5 hA hB hC
    unfold EvB at hS hZ
    have hsz3 := ev_size (⟨1, a, d, f, b, c⟩)
    have hone3 := evC_one (⟨1, a, d, f, b, c⟩)
    have hs36 : (evC ev0).size = (evC (⟨1, a, d, f, b, c⟩)).size := rfl
    obtain ⟨es, hes⟩ : ∃ es, es = evC (⟨1, a, d, f, b, c⟩) := ⟨_, rfl⟩
    have HEs := Lib.hid hes
    rw [← hes] at hS hsz3 hone3 hs36
    clear hes
    go_wp2_with (first
      | (refine wpList_load_row rfl 41 (.tmp 1) rfl g1 rfl 41 _ (0, 0) _ hS Try.underlying41 rfl hsz3 ?_)
      | (refine wpList_store_row rfl 41 (.tmp 2) (.tmp 35) rfl g2 _ rfl rfl 41 (evC ev0) hZ hsz3 hs36 hone3 ?_))
    refine bodyPost_ret (v := .agg es) ?_ rfl ⟨by rw [HI.out, HEs.out]; rfl, below_setRow hbS _ _ hwg2⟩
    exact results_cellE (ty := 41) (p := 2) (by kernel_rfl) _ _ g2 41 _ (0, 0) _ rfl (setRow_heap _ _ _ _ _ _ hZ) Try.underlying41 rfl hsz3
  by_cases hs : k = 2 ∨ k = 3 ∨ k = 4
  · have HI := Lib.hid (show r = ⟨k, a, b, d, c, f⟩ from hr.trans (by unfold invE; simp [hk, hk5, hk1, hs]))
    clear hr
    have hA := hE1.set_ 3 (.int .i64 d) (e' := ⟨k, a, b, d, d, f⟩) rfl
    have f3 := frozen_of_row _ g1 3 _ _ hE1
    have f4 := frozen_of_row _ g1 4 _ _ hA
    have x4 := hA.cells.2.2.2.2.1
    simp only at x4
    have hS := hA.set_ 4 (.int .i64 c) (e' := ⟨k, a, b, d, c, f⟩) rfl
    have hZ := (hE2.far hne 3 (.int .i64 d)).far hne 4 (.int .i64 c)
    have hbS := (hb2.setCell (p := ⟨g1, 3, none⟩) hwg1 (.int .i64 d)).setCell (p := ⟨g1, 4, none⟩) hwg1 (.int .i64 c)
    rcases hs with rfl | rfl | rfl
    · go_upto_region 12 with fail
      clear c0 c1 c2 c3 c4 c5 f0 f3 f4 x4 hA
      unfold EvB at hS hZ
      have hsz3 := ev_size (⟨2, a, b, d, c, f⟩)
      have hone3 := evC_one (⟨2, a, b, d, c, f⟩)
      have hs36 : (evC ev0).size = (evC (⟨2, a, b, d, c, f⟩)).size := rfl
      obtain ⟨es, hes⟩ : ∃ es, es = evC (⟨2, a, b, d, c, f⟩) := ⟨_, rfl⟩
      have HEs := Lib.hid hes
      rw [← hes] at hS hsz3 hone3 hs36
      clear hes
      go_wp2_with (first
        | (refine wpList_load_row rfl 41 (.tmp 1) rfl g1 rfl 41 _ (0, 0) _ hS Try.underlying41 rfl hsz3 ?_)
        | (refine wpList_store_row rfl 41 (.tmp 2) (.tmp 35) rfl g2 _ rfl rfl 41 (evC ev0) hZ hsz3 hs36 hone3 ?_))
      refine bodyPost_ret (v := .agg es) ?_ rfl ⟨by rw [HI.out, HEs.out]; rfl, below_setRow hbS _ _ hwg2⟩
      exact results_cellE (ty := 41) (p := 2) (by kernel_rfl) _ _ g2 41 _ (0, 0) _ rfl (setRow_heap _ _ _ _ _ _ hZ) Try.underlying41 rfl hsz3
    · go_upto_region 12 with fail
      clear c0 c1 c2 c3 c4 c5 f0 f3 f4 x4 hA
      unfold EvB at hS hZ
      have hsz3 := ev_size (⟨3, a, b, d, c, f⟩)
      have hone3 := evC_one (⟨3, a, b, d, c, f⟩)
      have hs36 : (evC ev0).size = (evC (⟨3, a, b, d, c, f⟩)).size := rfl
      obtain ⟨es, hes⟩ : ∃ es, es = evC (⟨3, a, b, d, c, f⟩) := ⟨_, rfl⟩
      have HEs := Lib.hid hes
      rw [← hes] at hS hsz3 hone3 hs36
      clear hes
      go_wp2_with (first
        | (refine wpList_load_row rfl 41 (.tmp 1) rfl g1 rfl 41 _ (0, 0) _ hS Try.underlying41 rfl hsz3 ?_)
        | (refine wpList_store_row rfl 41 (.tmp 2) (.tmp 35) rfl g2 _ rfl rfl 41 (evC ev0) hZ hsz3 hs36 hone3 ?_))
      refine bodyPost_ret (v := .agg es) ?_ rfl ⟨by rw [HI.out, HEs.out]; rfl, below_setRow hbS _ _ hwg2⟩
      exact results_cellE (ty := 41) (p := 2) (by kernel_rfl) _ _ g2 41 _ (0, 0) _ rfl (setRow_heap _ _ _ _ _ _ hZ) Try.underlying41 rfl hsz3
    · go_upto_region 12 with fail
      clear c0 c1 c2 c3 c4 c5 f0 f3 f4 x4 hA
      unfold EvB at hS hZ
      have hsz3 := ev_size (⟨4, a, b, d, c, f⟩)
      have hone3 := evC_one (⟨4, a, b, d, c, f⟩)
      have hs36 : (evC ev0).size = (evC (⟨4, a, b, d, c, f⟩)).size := rfl
      obtain ⟨es, hes⟩ : ∃ es, es = evC (⟨4, a, b, d, c, f⟩) := ⟨_, rfl⟩
      have HEs := Lib.hid hes
      rw [← hes] at hS hsz3 hone3 hs36
      clear hes
      go_wp2_with (first
        | (refine wpList_load_row rfl 41 (.tmp 1) rfl g1 rfl 41 _ (0, 0) _ hS Try.underlying41 rfl hsz3 ?_)
        | (refine wpList_store_row rfl 41 (.tmp 2) (.tmp 35) rfl g2 _ rfl rfl 41 (evC ev0) hZ hsz3 hs36 hone3 ?_))
      refine bodyPost_ret (v := .agg es) ?_ rfl ⟨by rw [HI.out, HEs.out]; rfl, below_setRow hbS _ _ hwg2⟩
      exact results_cellE (ty := 41) (p := 2) (by kernel_rfl) _ _ g2 41 _ (0, 0) _ rfl (setRow_heap _ _ _ _ _ _ hZ) Try.underlying41 rfl hsz3
  have HI := Lib.hid (show r = ⟨k, a, b, c, d, f⟩ from hr.trans (by unfold invE; simp [hk, hk5, hk1, hs]))
  have d0 : (k == 0) = false := by simpa using hk
  have d5 : (k == 5) = false := by simpa using hk5
  have d1 : (k == 1) = false := by simpa using hk1
  have d2 : (k == 2) = false := by simp; omega
  have d3 : (k == 3) = false := by simp; omega
  have d4 : (k == 4) = false := by simp; omega
  have hS := hE1
  have hZ := hE2
  have hbS := hb2
  clear hr
  go_upto_region 12 with fail
  clear c0 c1 c2 c3 c4 c5 f0 hk hk5 hk1 hs d0 d1 d2 d3 d4 d5
  unfold EvB at hS hZ
  have hsz3 := ev_size (⟨k, a, b, c, d, f⟩)
  have hone3 := evC_one (⟨k, a, b, c, d, f⟩)
  have hs36 : (evC ev0).size = (evC (⟨k, a, b, c, d, f⟩)).size := rfl
  obtain ⟨es, hes⟩ : ∃ es, es = evC (⟨k, a, b, c, d, f⟩) := ⟨_, rfl⟩
  have HEs := Lib.hid hes
  rw [← hes] at hS hsz3 hone3 hs36
  clear hes
  go_wp2_with (first
    | (refine wpList_load_row rfl 41 (.tmp 1) rfl g1 rfl 41 _ (0, 0) _ hS Try.underlying41 rfl hsz3 ?_)
    | (refine wpList_store_row rfl 41 (.tmp 2) (.tmp 35) rfl g2 _ rfl rfl 41 (evC ev0) hZ hsz3 hs36 hone3 ?_))
  refine bodyPost_ret (v := .agg es) ?_ rfl ⟨by rw [HI.out, HEs.out]; rfl, below_setRow hbS _ _ hwg2⟩
  exact results_cellE (ty := 41) (p := 2) (by kernel_rfl) _ _ g2 41 _ (0, 0) _ rfl (setRow_heap _ _ _ _ _ _ hZ) Try.underlying41 rfl hsz3
end Go.Proofs.Ytncmfkmgaghklaa
namespace Go.Proofs.Ytncmfkmgaghklaa
open Go.RowKit Go.Shelf Ex
attribute [local go_sem] Oper.semAt_some
set_option maxRecDepth 100000
theorem wpIn_ldBox {F : Fence} {n : Nat} {op : Oper} {a : Act} {w : World} {K : Act → World → Prop} {Q : Exit → Act → World → Prop} (x : Operand) (ho : op.op = .load 31 x) (g : Nat) (hx : a.eval x = .pointer (some ⟨g, 0, none⟩)) (A : Option Addr) (m c : Nat)
    (h : w.heap[g]? = some (.cells #[.slice A m c] 31 (0, 0))) (hK : K (a.put op.dst (.slice A m c)) w) : op.wpIn F n Try.prog a w K Q := by
  have hc : w.cell? ⟨g, 0, none⟩ = some (.slice A m c) := by rw [cell_of_row w g 0 _ _ _ h]; rfl
  refine ⟨fun f hf => by simp [Oper.about, ho] at hf, ?_⟩
  rw [Oper.semAt_eq _ _ _ (fun c => by rw [ho]; exact Op.noConfusion)]
  unfold execOp
  simp only [ho, hx]
  go_simp
  exact hK
theorem wpIn_ldEv {F : Fence} {n : Nat} {op : Oper} {a : Act} {w : World} {K : Act → World → Prop} {Q : Exit → Act → World → Prop} (x : Operand) (ho : op.op = .load 41 x) (g : Nat) (hx : a.eval x = .pointer (some ⟨g, 0, none⟩)) (e : EvT)
    (h : EvB w g e) (hK : K (a.put op.dst (evV e)) w) : op.wpIn F n Try.prog a w K Q := by
  refine ⟨fun f hf => by simp [Oper.about, ho] at hf, ?_⟩
  rw [Oper.semAt_eq _ _ _ (fun c => by rw [ho]; exact Op.noConfusion)]
  unfold execOp
  simp only [ho, hx, Instr.loadAt, Instr.sureAddr, Sem.run_bind, Sem.run_pure, Result.andThen_ok, run_loadVar_row w g 41 41 (evC e) (0, 0) _ h Try.underlying41 rfl (ev_size e)]
  exact hK
theorem wpIn_bsEv {F : Fence} {n : Nat} {op : Oper} {a : Act} {w : World} {K : Act → World → Prop} {Q : Exit → Act → World → Prop} (x : Operand) (ho : op.op = .buildSlice 31 1 #[(0, x)]) (e : EvT)
    (hx : a.eval x = evV e) (hK : K (a.put op.dst (.slice (some ⟨w.heap.size, 0, none⟩) 1 1)) (w.alloc (.cells (evC e) 41))) : op.wpIn F n Try.prog a w K Q := by
  refine ⟨fun f hf => by simp [Oper.about, ho] at hf, ?_⟩
  rw [Oper.semAt_eq _ _ _ (fun c => by rw [ho]; exact Op.noConfusion)]
  simp [execOp, ho, hx, buildSlice_ev, Result.andThen]
  exact hK
theorem wpIn_apV {F : Fence} {n' : Nat} {o : Oper} {a : Act} {w : World} {K : Act → World → Prop} {Q : Exit → Act → World → Prop} (s x : Operand)
    (ho : o.op = .call { callee := .builtin .append, args := #[s, x], argTypes := #[31, 31] })
    (base : Nat) (A : Option Addr) (n c : Nat) (l : List EvT) (hs : a.eval s = .slice A n c) (h : OwnV w base A n c l)
    (B : Nat) (A2 : Option Addr) (m c2 : Nat) (l2 : List EvT) (hx : a.eval x = .slice A2 m c2) (hr : RdV B w A2 l2) (hl : m = l2.length) (hn : n + m ≤ 1000000) (hbase : base ≤ w.heap.size)
    (hK : ∀ A' c' w', OwnV w' base A' (n + m) c' (l ++ l2) → w.grownBy w' (Value.slice A n c).ownBlock → K (a.put o.dst (.slice A' (n + m) c')) w') :
    o.wpIn F n' Try.prog a w K Q := by
  obtain ⟨A', c', w', hrun, h1, h2, _⟩ := run_appV o.type base A n c l h B A2 m c2 l2 hr hl hn hbase
  refine ⟨?_, ?_⟩
  · simp [Oper.about, ho, resolve, Target.leads, Sem.run_pure]
  · rw [Oper.semAt_eq _ _ _ (fun c => by rw [ho]; intro h; cases h)]
    simp [execOp, ho, resolve, invoke, builtin, hs, hx, hrun, Result.andThen]
    exact hK A' c' w' h1 h2
theorem wpIn_stBox {F : Fence} {n : Nat} {op : Oper} {a : Act} {w : World} {K : Act → World → Prop} {Q : Exit → Act → World → Prop} (x y : Operand) (ho : op.op = .store 31 x y) (g : Nat) (hx : a.eval x = .pointer (some ⟨g, 0, none⟩)) (A A2 : Option Addr) (m c m2 c2 : Nat)
    (hy : a.eval y = .slice A2 m2 c2) (h : w.heap[g]? = some (.cells #[.slice A m c] 31 (0, 0))) (hK : K (a.put op.dst undef) (w.setCell ⟨g, 0, none⟩ (.slice A2 m2 c2))) : op.wpIn F n Try.prog a w K Q := by
  have hc : w.cell? ⟨g, 0, none⟩ = some (.slice A m c) := by rw [cell_of_row w g 0 _ _ _ h]; rfl
  have hf := frozen_of_row w g 0 _ _ h
  refine ⟨fun f hf => by simp [Oper.about, ho] at hf, ?_⟩
  rw [Oper.semAt_eq _ _ _ (fun c => by rw [ho]; exact Op.noConfusion)]
  unfold execOp
  simp only [ho, hx, hy]
  go_simp
  exact hK
/-- Between two rounds: the box of the opposites so far, the iterator's box. -/
structure InvJ (w : World) (bx bv : Nat) (A : Option Addr) (n c : Nat) (l : List EvT) (k : Nat) (W : World) : Prop where
  ex : ∃ A' c', W.heap[bx]? = some (.cells #[.slice A' k c'] 31 (0, 0)) ∧ OwnV W w.heap.size A' k c' ((invL l).take k)
  b : Below w.heap.size w W
  lo : w.heap.size ≤ bx
  sv : W.heap[bv]? = some (.cells #[.slice A n c] 31 (0, 0))
  ne : bv ≠ bx
theorem putObj_cells {A : World} {m : Nat} {o o' : Obj} (ho : A.heap[m]? = some o) (hc : o.isCells = false) {g : Nat} {cur : Array Value} {t : TypeId} (h : A.heap[g]? = some (.cells cur t (0, 0))) : (A.putObj m o').heap[g]? = some (.cells cur t (0, 0)) := by
  refine (World.putObj_heap_other (fun e => ?_)).trans h
  subst e
  rw [ho] at h
  injection h with h
  rw [h] at hc; cases hc
section
variable {w : World} {bx bv n c k m : Nat} {A : Option Addr} {l : List EvT}
theorem InvJ.grows : Grows (InvJ w bx bv A n c l k) := by
  rintro X Y ⟨⟨A1, c1, h1, h2⟩, h3, h4, h5, h6⟩ hb
  exact ⟨⟨A1, c1, (hb.block _ (Array.getElem?_eq_some_iff.1 h1).1).trans h1, h2.below hb⟩, keepB hb h3, h4, (hb.block _ (Array.getElem?_eq_some_iff.1 h5).1).trans h5, h6⟩
theorem InvJ.turns (hm : w.heap.size ≤ m) : Turns m (InvJ w bx bv A n c l k) := by
  rintro X p o o' hp ⟨⟨A1, c1, h1, h2⟩, h3, h4, h5, h6⟩ ho hc
  have hsz : (X.putObj p o').heap.size = X.heap.size := by simp [World.putObj]
  refine ⟨⟨A1, c1, putObj_cells ho hc h1, ⟨h2.len, owns_keep h2.o fun j hj => ?_⟩⟩, ⟨h3.os, h3.tape, h3.output, by rw [hsz]; exact h3.size, fun i hi => (World.putObj_heap_other (by omega)).trans (h3.block i hi)⟩, h4, putObj_cells ho hc h5, h6⟩
  obtain ⟨_, cur, hj2⟩ := own_ty h2.o hj
  rw [putObj_cells ho hc hj2, hj2]
theorem OwnV.ne_box {W : World} {base : Nat} {cs : Array Value} {t : TypeId} {l : List EvT} (h : OwnV W base A n c l) (hx : W.heap[bx]? = some (.cells cs t (0, 0))) (ht : t ≠ 41) : some bx ≠ (Value.slice A n c).ownBlock := fun e => by
  obtain ⟨_, cur, hc⟩ := own_ty h.o e.symm
  rw [hx] at hc
  injection hc with hc
  injection hc with _ h2
  exact ht h2
end
theorem inv_at {l : List EvT} {k : Nat} (hk : k < l.length) : (invL l).take (k + 1) = (invL l).take k ++ [invE (bkE l k)] := by
  refine take_snoc ?_
  unfold invL bkE
  rw [List.getD_eq_getElem?_getD, List.getElem?_reverse (by simpa using hk), List.getElem?_reverse hk, List.getElem?_map, List.length_map, List.getElem?_eq_getElem (by omega)]
  rfl
/-- The round's end. -/
theorem InvJ.step {w W w3 w5 : World} {bx bv n c k c4 c5 : Nat} {A A4 A5 : Option Addr} {l : List EvT} (hk : k < l.length) (hb : Below w.heap.size w W) (hlo : w.heap.size ≤ bx) (hne : bv ≠ bx) (hbx : W.heap[bx]? = some (.cells #[.slice A4 k c4] 31 (0, 0)))
    (hbv : W.heap[bv]? = some (.cells #[.slice A n c] 31 (0, 0))) (ho : OwnV W w.heap.size A4 k c4 ((invL l).take k)) (h3 : Below W.heap.size W w3)
    (ho5 : OwnV w5 w.heap.size A5 (k + 1) c5 ((invL l).take k ++ [invE (bkE l k)])) (hg5 : w3.grownBy w5 (Value.slice A4 k c4).ownBlock) :
    w5.heap[bx]? = some (.cells #[.slice A4 k c4] 31 (0, 0)) ∧ KeepsOthers W (w5.setCell ⟨bx, 0, none⟩ (.slice A5 (k + 1) c5)) ∧ InvJ w bx bv A n c l (k + 1) (w5.setCell ⟨bx, 0, none⟩ (.slice A5 (k + 1) c5)) := by
  have hbx3 := (h3.block bx (Array.getElem?_eq_some_iff.1 hbx).1).trans hbx
  have hbv3 := (h3.block bv (Array.getElem?_eq_some_iff.1 hbv).1).trans hbv
  have ho3 := ho.below h3
  have hlx := (Array.getElem?_eq_some_iff.1 hbx3).1
  have hlv := (Array.getElem?_eq_some_iff.1 hbv3).1
  have hbx5 := (hg5.block bx hlx (ho3.ne_box hbx3 (by decide))).trans hbx3
  have hbv5 := (hg5.block bv hlv (ho3.ne_box hbv3 (by decide))).trans hbv3
  have hb5 : Below w.heap.size w w5 := ho3.grown (keepB h3 hb) (Nat.le_trans hb.size h3.size) hg5
  have hcells : ∀ (j : Nat) (o : Obj), (Value.slice A4 k c4).ownBlock = some j → w3.heap[j]? = some o → o.isCells = true := fun j o hj hoo => by
    obtain ⟨_, cur, hc⟩ := own_ty ho3.o hj
    rw [hoo] at hc; injection hc with hc; rw [hc]; rfl
  have hk3 : KeepsOthers W w3 := ⟨h3.size, fun _ _ h _ => (h3.block _ (Array.getElem?_eq_some_iff.1 h).1).trans h⟩
  refine ⟨hbx5, (hk3.trans (KeepsOthers.of_grownBy hg5 hcells)).trans (KeepsOthers.setCell _ _ _), ⟨⟨A5, c5, heap_setCell_same w5 bx 0 _ _ _ hbx5, ?_⟩, hb5.setCell hlo _, hlo, (heap_setCell_other w5 ⟨bx, 0, none⟩ bv _ (by simpa using hne)).trans hbv5, hne⟩⟩
  rw [inv_at hk]
  exact ⟨ho5.len, owns_keep ho5.o fun j hj => heap_setCell_other w5 ⟨bx, 0, none⟩ j _ (fun e => ho5.ne_box hbx5 (by decide) (by rw [hj]; congr 1; exact e.symm))⟩
/-- Invert at the head of a round's body. -/
def InvM (w : World) (bx bv : Nat) (A : Option Addr) (n c : Nat) (gf : Nat) (lb : Array Value) (l : List EvT) (_lp k : Nat) (_cs : Array Value) (a' : Act) (W : World) : Prop := ∃ g,
  a' = { tmps := #[.slice A n c, undef, .slice none 0 0, .pointer (some ⟨bx, 0, none⟩), undef, .pointer (some ⟨g, 0, none⟩), .slice A n c, .int .i64 (n : Int), .slice (some ⟨w.heap.size, 0, none⟩) 0 n, .slice A n c, .func (.func gf) #[] lb, .int .i64 ((n : Int) - 1 - (k : Int)), evV (bkE l k), undef, undef, undef, undef, undef, undef], defers := [] } ∧
  InvJ w bx bv A n c l k W ∧ EvB W g (bkE l k)
theorem zip2V (t : Array Value) (p q : Nat) (u v : Value) : (#[p, q].zip #[u, v]).foldl (fun t (p, v) => t.setIfInBounds p v) t = (t.setIfInBounds p u).setIfInBounds q v := by simp
set_option linter.unusedSimpArgs false in
set_option maxHeartbeats 0 in
theorem invL_code (A : Option Addr) (n c : Nat) (l : List EvT) (w : World) (h : Evs w.heap.size w A n l) (hn : n ≤ 70000) :
    Calls Try.prog 36 #[.slice A n c] w fun en w' => ∃ A' c', en = .returned (.slice A' n c') ∧ n ≤ c' ∧ Evs w'.heap.size w' A' n (invL l) ∧ Below w.heap.size w w' := by
  have H := Lib.hid h
  have HLn := Lib.hid (show l.length = n from h.n.symm)
  clear h
  refine (callsIn_wide (n := 6)).1 ?_
  refine callsIn_of_wp_marks Try.func36 rfl trivial ?_ rfl
  simp only [Try.ntmps36, List.size_toArray, List.length_cons, List.length_nil, Nat.reduceAdd, Nat.reduceSub, Array.replicate_succ, Array.replicate_zero, List.push_toArray, List.append_toArray, List.nil_append, List.cons_append]
  obtain ⟨w1, hmk, ho1, hg1⟩ : ∃ w1, (Instr.makeSlice 31 (.int .i64 0) (.int .i64 (n : Int))).run Try.prog w = .ok (.slice (some ⟨w.heap.size, 0, none⟩) 0 n) w1 ∧ OwnV w1 w.heap.size (some ⟨w.heap.size, 0, none⟩) 0 n [] ∧ w.grownBy w1 none := by
    obtain ⟨i0, hi, hz0, hz1, hz2⟩ := info_parts info_ev
    obtain ⟨W', hr, ho, hg⟩ := run_make_own (P := Try.prog) w w.heap.size 31 41 i0 _ 6 Try.underlying31 hi hz0 hz1 .i64 .i64 n (by rw [hz2]; omega) (by unfold maxLen; omega) (Nat.le_refl _)
    exact ⟨W', hr, ⟨rfl, ho⟩, hg⟩
  have hb1 : Below w.heap.size w w1 := (Below.refl _ _).grown hg1 (Nat.le_refl _) (fun _ e => by cases e)
  gi_upto_region 2 with fail
  have hb2a : Below w1.heap.size w1 (w1.alloc (.cells #[.slice (some ⟨w.heap.size, 0, none⟩) 0 n] 31)) := (Below.refl _ _).alloc (Nat.le_refl _) _
  have hb2 := keepB hb2a hb1
  have hbx2 : (w1.alloc (.cells #[.slice (some ⟨w.heap.size, 0, none⟩) 0 n] 31)).heap[w1.heap.size]? = some (.cells #[.slice (some ⟨w.heap.size, 0, none⟩) 0 n] 31 (0, 0)) := heap_alloc_new _ _
  have ho2 := ho1.below hb2a
  obtain ⟨bx, hbx⟩ : ∃ b, b = w1.heap.size := ⟨_, rfl⟩
  have hlo : w.heap.size ≤ bx := by rw [hbx]; exact hb1.size
  obtain ⟨W2, hW2⟩ : ∃ W, W = w1.alloc (.cells #[.slice (some ⟨w.heap.size, 0, none⟩) 0 n] 31) := ⟨_, rfl⟩
  rw [← hW2] at hb2 hbx2 ho2 ⊢
  rw [← hbx] at hbx2 ⊢
  have hlt2 := (Array.getElem?_eq_some_iff.1 hbx2).1
  have hba := backV_any A n c l W2 ((H.out.r.below hb2).more hb2.size) HLn.out (by omega)
  clear hW2 hbx hmk ho1 hg1 hb1 hb2a
  gi_wp2_with fail
  refine ⟨trivial, (callsIn_wide.2 hba).mono ?_⟩
  rintro e W3 ⟨hb3, gf, lb, rfl, heg, hH, hS3⟩
  clear hba
  have hlt3 := (Array.getElem?_eq_some_iff.1 hS3.box).1
  have hbx3 := (hb3.block bx hlt2).trans hbx2
  have hI3 : InvJ w bx W2.heap.size A n c l 0 W3 := ⟨⟨_, _, hbx3, by rw [List.take_zero]; exact ho2.below hb3⟩, keepB hb3 hb2, hlo, hS3.box, by omega⟩
  have hlo3 := hI3.b.size
  obtain ⟨bv, hbv⟩ : ∃ b, b = W2.heap.size := ⟨_, rfl⟩
  rw [← hbv] at hI3 hlt3 hH
  clear hbv hS3 hb2 hb3 hbx2 hbx3 ho2 hlt2
  gi_wp2_with fail
  refine range_hands (F := Fence.wide) (n := 6) rfl (by omega) (gf := gf) (lb := lb) rfl trivial heg hH (fun _ _ => rfl)
    (fun k W => InvJ w bx bv A n c l k W) (fun _ _ => False) (InvM w bx bv A n c gf lb l) (fun k => InvJ.grows) (fun k => InvJ.turns hlo3) (fun _ _ _ h _ => h) (fun _ _ _ _ _ _ h _ _ => h) ?_ (fun k B h => ⟨h.sv, (H.out.r.below h.b).more h.b.size⟩) hI3 ?_ ?_ ?_ ?_
  · rintro lp k cs a' B o o' hl ⟨g, h1, h2, h3⟩ ho hc
    exact ⟨g, h1, InvJ.turns hlo3 B lp o o' hl h2 ho hc, putObj_cells ho hc h3⟩
  · rintro lp k cs W K hl hk hC - hK
    simp only [zip2V, List.setIfInBounds_toArray, List.set_cons_succ, List.set_cons_zero]
    have hbE : Below W.heap.size W ((W.alloc (.cells (evC ev0) 41)).setRow W.heap.size (evC (bkE l k))) := below_setRow ((Below.refl _ _).alloc (Nat.le_refl _) _) _ _ (Nat.le_refl _)
    have hEE : EvB ((W.alloc (.cells (evC ev0) 41)).setRow W.heap.size (evC (bkE l k))) W.heap.size (bkE l k) := setRow_heap _ _ _ _ _ _ (heap_alloc_new _ _)
    have hz6 := ev0_is
    have hnew : (W.alloc (.cells (evC ev0) 41)).heap[W.heap.size]? = some (.cells (evC ev0) 41 (0, 0)) := heap_alloc_new _ _
    gi_wp2_with (refine store_evIn rfl (.tmp 5) (.tmp 12) rfl W.heap.size (bkE l k) rfl rfl (evC ev0) hnew rfl ?_)
    exact hK _ _ ⟨W.heap.size, rfl, InvJ.grows _ _ hC hbE, hEE⟩ ⟨hbE.size, fun _ _ h _ => (hbE.block _ (Array.getElem?_eq_some_iff.1 h).1).trans h⟩
  · rintro lp k cs a' W hl hk ⟨g, rfl, ⟨⟨A4, c4, hbx4, ho4⟩, hb4, hlo4, hbv4, hne4⟩, hE⟩
    have hkl : k < l.length := by rw [HLn.out]; exact hk
    have hbd : Below W.heap.size W W.drew := (Below.refl _ _).drew
    have hbxd : W.drew.heap[bx]? = some (.cells #[.slice A4 k c4] 31 (0, 0)) := hbx4
    have hE : EvB W.drew g (bkE l k) := hE
    gi_upto_region 4 with fail
    refine wpIn_region_any (by kernel_rfl) ?_
    show wpAnyIn _ _ _ _ _ _ _ _ _ W.drew
    refine wpAnyIn_ready (rs := [0, 1]) (by kernel_rfl) (by simp) ?_
    refine AllReadyIn.cons rfl (fun K hK => ?_) (AllReadyIn.cons rfl (fun K hK => ?_) AllReadyIn.nil)
    all_goals rw [if_pos (by rfl)]
    · skip
      refine wpIn_ldBox (.tmp 3) rfl bx rfl A4 k c4 hbxd ?_
      refine hK _ _ ?_
      clear hK K
      simp only [Act.put, List.setIfInBounds_toArray, List.set_cons_zero, List.set_cons_succ]
      refine wpAnyIn_ready (rs := [1]) (by kernel_rfl) (by simp) ?_
      refine AllReadyIn.cons rfl (fun K hK => ?_) AllReadyIn.nil
      rw [if_pos (by rfl)]
      refine wpIn_ldEv (.tmp 5) rfl g rfl (bkE l k) hE ?_
      refine hK _ _ ?_
      clear hK K
      simp only [Act.put, List.setIfInBounds_toArray, List.set_cons_zero, List.set_cons_succ]
      refine wpAnyIn_ready (rs := [2]) (by kernel_rfl) (by simp) ?_
      refine AllReadyIn.cons rfl (fun K hK => ?_) AllReadyIn.nil
      rw [if_pos (by rfl)]
      go_simp
      refine ⟨trivial, (CallsIn.inRound lp (callsIn_wide.2 (inv_code (bkE l k) W.drew))).mono ?_⟩
      rintro en w2 ⟨rfl, hb2⟩
      refine hK _ _ ?_
      clear hK K
      try simp only [Act.put, List.setIfInBounds_toArray, List.set_cons_zero, List.set_cons_succ]
      have hb2d : Below W.heap.size W w2 := keepB hb2 hbd
      have hbx2 := (hb2d.block bx (Array.getElem?_eq_some_iff.1 hbx4).1).trans hbx4
      refine wpAnyIn_ready (rs := [3]) (by kernel_rfl) (by simp) ?_
      refine AllReadyIn.cons rfl (fun K hK => ?_) AllReadyIn.nil
      rw [if_pos (by rfl)]
      refine wpIn_bsEv (.tmp 15) rfl (invE (bkE l k)) rfl ?_
      refine hK _ _ ?_
      clear hK K
      simp only [Act.put, List.setIfInBounds_toArray, List.set_cons_zero, List.set_cons_succ]
      have hb3 : Below w2.heap.size w2 (w2.alloc (.cells (evC (invE (bkE l k))) 41)) := (Below.refl _ _).alloc (Nat.le_refl _) _
      have hE3 : EvB (w2.alloc (.cells (evC (invE (bkE l k))) 41)) w2.heap.size (invE (bkE l k)) := heap_alloc_new _ _
      have hR3 := rdV_one hE3
      have hb3d := keepB hb3 hb2d
      have hbx3 := (hb3d.block bx (Array.getElem?_eq_some_iff.1 hbx4).1).trans hbx4
      have hO3 := ho4.below hb3d
      obtain ⟨w3, hw3⟩ : ∃ w3, w3 = w2.alloc (.cells (evC (invE (bkE l k))) 41) := ⟨_, rfl⟩
      rw [← hw3] at hR3 hb3d hbx3 hO3 ⊢
      have hs3 : w.heap.size ≤ w3.heap.size := Nat.le_trans hb4.size hb3d.size
      clear hE3 hb3 hw3
      refine wpAnyIn_ready (rs := [4]) (by kernel_rfl) (by simp) ?_
      refine AllReadyIn.cons rfl (fun K hK => ?_) AllReadyIn.nil
      rw [if_pos (by rfl)]
      refine wpIn_apV (.tmp 13) (.tmp 16) rfl w.heap.size A4 k c4 _ rfl hO3 _ (some ⟨w2.heap.size, 0, none⟩) 1 1 [invE (bkE l k)] rfl hR3 rfl (by omega) hs3 ?_
      intro A5 c5 w5 ho5 hg5
      obtain ⟨hbx5, hko, hJ5⟩ := InvJ.step (n := n) (c := c) (A := A) hkl hb4 hlo4 hne4 hbx4 hbv4 ho4 hb3d ho5 hg5
      refine hK _ _ ?_
      clear hK K
      simp only [Act.put, List.setIfInBounds_toArray, List.set_cons_zero, List.set_cons_succ]
      refine wpAnyIn_ready (rs := [5]) (by kernel_rfl) (by simp) ?_
      refine AllReadyIn.cons rfl (fun K hK => ?_) AllReadyIn.nil
      rw [if_pos (by rfl)]
      refine wpIn_stBox (.tmp 3) (.tmp 17) rfl bx rfl A4 A5 k c4 (k + 1) c5 rfl hbx5 ?_
      refine hK _ _ ?_
      clear hK K
      simp only [Act.put]
      refine wpAnyIn_done (by kernel_rfl) ?_ _
      exact ⟨hko, hJ5⟩
    · skip
      refine wpIn_ldEv (.tmp 5) rfl g rfl (bkE l k) hE ?_
      refine hK _ _ ?_
      clear hK K
      simp only [Act.put, List.setIfInBounds_toArray, List.set_cons_zero, List.set_cons_succ]
      refine wpAnyIn_ready (rs := [0, 2]) (by kernel_rfl) (by simp) ?_
      refine AllReadyIn.cons rfl (fun K hK => ?_) (AllReadyIn.cons rfl (fun K hK => ?_) AllReadyIn.nil)
      all_goals rw [if_pos (by rfl)]
      · skip
        refine wpIn_ldBox (.tmp 3) rfl bx rfl A4 k c4 hbxd ?_
        refine hK _ _ ?_
        clear hK K
        simp only [Act.put, List.setIfInBounds_toArray, List.set_cons_zero, List.set_cons_succ]
        refine wpAnyIn_ready (rs := [2]) (by kernel_rfl) (by simp) ?_
        refine AllReadyIn.cons rfl (fun K hK => ?_) AllReadyIn.nil
        rw [if_pos (by rfl)]
        go_simp
        refine ⟨trivial, (CallsIn.inRound lp (callsIn_wide.2 (inv_code (bkE l k) W.drew))).mono ?_⟩
        rintro en w2 ⟨rfl, hb2⟩
        refine hK _ _ ?_
        clear hK K
        try simp only [Act.put, List.setIfInBounds_toArray, List.set_cons_zero, List.set_cons_succ]
        have hb2d : Below W.heap.size W w2 := keepB hb2 hbd
        have hbx2 := (hb2d.block bx (Array.getElem?_eq_some_iff.1 hbx4).1).trans hbx4
        refine wpAnyIn_ready (rs := [3]) (by kernel_rfl) (by simp) ?_
        refine AllReadyIn.cons rfl (fun K hK => ?_) AllReadyIn.nil
        rw [if_pos (by rfl)]
        refine wpIn_bsEv (.tmp 15) rfl (invE (bkE l k)) rfl ?_
        refine hK _ _ ?_
        clear hK K
        simp only [Act.put, List.setIfInBounds_toArray, List.set_cons_zero, List.set_cons_succ]
        have hb3 : Below w2.heap.size w2 (w2.alloc (.cells (evC (invE (bkE l k))) 41)) := (Below.refl _ _).alloc (Nat.le_refl _) _
        have hE3 : EvB (w2.alloc (.cells (evC (invE (bkE l k))) 41)) w2.heap.size (invE (bkE l k)) := heap_alloc_new _ _
        have hR3 := rdV_one hE3
        have hb3d := keepB hb3 hb2d
        have hbx3 := (hb3d.block bx (Array.getElem?_eq_some_iff.1 hbx4).1).trans hbx4
        have hO3 := ho4.below hb3d
        obtain ⟨w3, hw3⟩ : ∃ w3, w3 = w2.alloc (.cells (evC (invE (bkE l k))) 41) := ⟨_, rfl⟩
        rw [← hw3] at hR3 hb3d hbx3 hO3 ⊢
        have hs3 : w.heap.size ≤ w3.heap.size := Nat.le_trans hb4.size hb3d.size
        clear hE3 hb3 hw3
        refine wpAnyIn_ready (rs := [4]) (by kernel_rfl) (by simp) ?_
        refine AllReadyIn.cons rfl (fun K hK => ?_) AllReadyIn.nil
        rw [if_pos (by rfl)]
        refine wpIn_apV (.tmp 13) (.tmp 16) rfl w.heap.size A4 k c4 _ rfl hO3 _ (some ⟨w2.heap.size, 0, none⟩) 1 1 [invE (bkE l k)] rfl hR3 rfl (by omega) hs3 ?_
        intro A5 c5 w5 ho5 hg5
        obtain ⟨hbx5, hko, hJ5⟩ := InvJ.step (n := n) (c := c) (A := A) hkl hb4 hlo4 hne4 hbx4 hbv4 ho4 hb3d ho5 hg5
        refine hK _ _ ?_
        clear hK K
        simp only [Act.put, List.setIfInBounds_toArray, List.set_cons_zero, List.set_cons_succ]
        refine wpAnyIn_ready (rs := [5]) (by kernel_rfl) (by simp) ?_
        refine AllReadyIn.cons rfl (fun K hK => ?_) AllReadyIn.nil
        rw [if_pos (by rfl)]
        refine wpIn_stBox (.tmp 3) (.tmp 17) rfl bx rfl A4 A5 k c4 (k + 1) c5 rfl hbx5 ?_
        refine hK _ _ ?_
        clear hK K
        simp only [Act.put]
        refine wpAnyIn_done (by kernel_rfl) ?_ _
        exact ⟨hko, hJ5⟩
      · skip
        go_simp
        refine ⟨trivial, (CallsIn.inRound lp (callsIn_wide.2 (inv_code (bkE l k) W.drew))).mono ?_⟩
        rintro en w2 ⟨rfl, hb2⟩
        refine hK _ _ ?_
        clear hK K
        try simp only [Act.put, List.setIfInBounds_toArray, List.set_cons_zero, List.set_cons_succ]
        have hb2d : Below W.heap.size W w2 := keepB hb2 hbd
        have hbx2 := (hb2d.block bx (Array.getElem?_eq_some_iff.1 hbx4).1).trans hbx4
        refine wpAnyIn_ready (rs := [0, 3]) (by kernel_rfl) (by simp) ?_
        refine AllReadyIn.cons rfl (fun K hK => ?_) (AllReadyIn.cons rfl (fun K hK => ?_) AllReadyIn.nil)
        all_goals rw [if_pos (by rfl)]
        · skip
          refine wpIn_ldBox (.tmp 3) rfl bx rfl A4 k c4 hbx2 ?_
          refine hK _ _ ?_
          clear hK K
          simp only [Act.put, List.setIfInBounds_toArray, List.set_cons_zero, List.set_cons_succ]
          refine wpAnyIn_ready (rs := [3]) (by kernel_rfl) (by simp) ?_
          refine AllReadyIn.cons rfl (fun K hK => ?_) AllReadyIn.nil
          rw [if_pos (by rfl)]
          refine wpIn_bsEv (.tmp 15) rfl (invE (bkE l k)) rfl ?_
          refine hK _ _ ?_
          clear hK K
          simp only [Act.put, List.setIfInBounds_toArray, List.set_cons_zero, List.set_cons_succ]
          have hb3 : Below w2.heap.size w2 (w2.alloc (.cells (evC (invE (bkE l k))) 41)) := (Below.refl _ _).alloc (Nat.le_refl _) _
          have hE3 : EvB (w2.alloc (.cells (evC (invE (bkE l k))) 41)) w2.heap.size (invE (bkE l k)) := heap_alloc_new _ _
          have hR3 := rdV_one hE3
          have hb3d := keepB hb3 hb2d
          have hbx3 := (hb3d.block bx (Array.getElem?_eq_some_iff.1 hbx4).1).trans hbx4
          have hO3 := ho4.below hb3d
          obtain ⟨w3, hw3⟩ : ∃ w3, w3 = w2.alloc (.cells (evC (invE (bkE l k))) 41) := ⟨_, rfl⟩
          rw [← hw3] at hR3 hb3d hbx3 hO3 ⊢
          have hs3 : w.heap.size ≤ w3.heap.size := Nat.le_trans hb4.size hb3d.size
          clear hE3 hb3 hw3
          refine wpAnyIn_ready (rs := [4]) (by kernel_rfl) (by simp) ?_
          refine AllReadyIn.cons rfl (fun K hK => ?_) AllReadyIn.nil
          rw [if_pos (by rfl)]
          refine wpIn_apV (.tmp 13) (.tmp 16) rfl w.heap.size A4 k c4 _ rfl hO3 _ (some ⟨w2.heap.size, 0, none⟩) 1 1 [invE (bkE l k)] rfl hR3 rfl (by omega) hs3 ?_
          intro A5 c5 w5 ho5 hg5
          obtain ⟨hbx5, hko, hJ5⟩ := InvJ.step (n := n) (c := c) (A := A) hkl hb4 hlo4 hne4 hbx4 hbv4 ho4 hb3d ho5 hg5
          refine hK _ _ ?_
          clear hK K
          simp only [Act.put, List.setIfInBounds_toArray, List.set_cons_zero, List.set_cons_succ]
          refine wpAnyIn_ready (rs := [5]) (by kernel_rfl) (by simp) ?_
          refine AllReadyIn.cons rfl (fun K hK => ?_) AllReadyIn.nil
          rw [if_pos (by rfl)]
          refine wpIn_stBox (.tmp 3) (.tmp 17) rfl bx rfl A4 A5 k c4 (k + 1) c5 rfl hbx5 ?_
          refine hK _ _ ?_
          clear hK K
          simp only [Act.put]
          refine wpAnyIn_done (by kernel_rfl) ?_ _
          exact ⟨hko, hJ5⟩
        · skip
          refine wpIn_bsEv (.tmp 15) rfl (invE (bkE l k)) rfl ?_
          refine hK _ _ ?_
          clear hK K
          simp only [Act.put, List.setIfInBounds_toArray, List.set_cons_zero, List.set_cons_succ]
          have hb3 : Below w2.heap.size w2 (w2.alloc (.cells (evC (invE (bkE l k))) 41)) := (Below.refl _ _).alloc (Nat.le_refl _) _
          have hE3 : EvB (w2.alloc (.cells (evC (invE (bkE l k))) 41)) w2.heap.size (invE (bkE l k)) := heap_alloc_new _ _
          have hR3 := rdV_one hE3
          have hb3d := keepB hb3 hb2d
          have hbx3 := (hb3d.block bx (Array.getElem?_eq_some_iff.1 hbx4).1).trans hbx4
          have hO3 := ho4.below hb3d
          obtain ⟨w3, hw3⟩ : ∃ w3, w3 = w2.alloc (.cells (evC (invE (bkE l k))) 41) := ⟨_, rfl⟩
          rw [← hw3] at hR3 hb3d hbx3 hO3 ⊢
          have hs3 : w.heap.size ≤ w3.heap.size := Nat.le_trans hb4.size hb3d.size
          clear hE3 hb3 hw3
          refine wpAnyIn_ready (rs := [0]) (by kernel_rfl) (by simp) ?_
          refine AllReadyIn.cons rfl (fun K hK => ?_) AllReadyIn.nil
          rw [if_pos (by rfl)]
          refine wpIn_ldBox (.tmp 3) rfl bx rfl A4 k c4 hbx3 ?_
          refine hK _ _ ?_
          clear hK K
          simp only [Act.put, List.setIfInBounds_toArray, List.set_cons_zero, List.set_cons_succ]
          refine wpAnyIn_ready (rs := [4]) (by kernel_rfl) (by simp) ?_
          refine AllReadyIn.cons rfl (fun K hK => ?_) AllReadyIn.nil
          rw [if_pos (by rfl)]
          refine wpIn_apV (.tmp 13) (.tmp 16) rfl w.heap.size A4 k c4 _ rfl hO3 _ (some ⟨w2.heap.size, 0, none⟩) 1 1 [invE (bkE l k)] rfl hR3 rfl (by omega) hs3 ?_
          intro A5 c5 w5 ho5 hg5
          obtain ⟨hbx5, hko, hJ5⟩ := InvJ.step (n := n) (c := c) (A := A) hkl hb4 hlo4 hne4 hbx4 hbv4 ho4 hb3d ho5 hg5
          refine hK _ _ ?_
          clear hK K
          simp only [Act.put, List.setIfInBounds_toArray, List.set_cons_zero, List.set_cons_succ]
          refine wpAnyIn_ready (rs := [5]) (by kernel_rfl) (by simp) ?_
          refine AllReadyIn.cons rfl (fun K hK => ?_) AllReadyIn.nil
          rw [if_pos (by rfl)]
          refine wpIn_stBox (.tmp 3) (.tmp 17) rfl bx rfl A4 A5 k c4 (k + 1) c5 rfl hbx5 ?_
          refine hK _ _ ?_
          clear hK K
          simp only [Act.put]
          refine wpAnyIn_done (by kernel_rfl) ?_ _
          exact ⟨hko, hJ5⟩
  · rintro D W hD0 ⟨⟨A4, c4, hbx4, ho4⟩, hb4, hlo4, hbv4, hne⟩ hD
    have cb : W.cell? ⟨bx, 0, none⟩ = some (.slice A4 n c4) := by rw [cell_of_row W bx 0 _ _ _ hbx4]; rfl
    gi_wp2_with fail
    refine ⟨by simp, .inl ⟨D, _, rfl, run_takeDeferred hD, ?_⟩⟩
    simp only [LeavesInM, LeavesIn]
    have ho6 := (InvJ.turns hlo3 W D _ (.deferred none) hD0 (show InvJ w bx bv A n c l n W from ⟨⟨A4, c4, hbx4, ho4⟩, hb4, hlo4, hbv4, hne⟩) hD rfl)
    obtain ⟨⟨A6, c6, hbx6, ho6⟩, hb6, _, _, _⟩ := ho6
    have hDx : bx ≠ D := by rintro rfl; rw [hbx4] at hD; simp at hD
    obtain ⟨rfl, rfl⟩ : A6 = A4 ∧ c6 = c4 := by simpa using hbx6.symm.trans ((World.putObj_heap_other (w := W) (o := .deferred none) (k := bx) (r := D) hDx).trans hbx4)
    rw [List.take_of_length_le (by rw [invL_len, HLn.out]; exact Nat.le_refl _)] at ho6
    exact ⟨.slice A6 n c6, by simp [results, Try.f36, go_sem], A6, c6, rfl, ho6.cap.1, ho6.evs (fun e he => by
      obtain ⟨x, hx, rfl⟩ := List.mem_map.1 (List.mem_reverse.1 he)
      exact invE_i (H.out.i x hx)), hb6⟩
  · rintro D c W hD0 h
    exact h.elim
end Go.Proofs.Ytncmfkmgaghklaa
namespace Go.Proofs.Ytncmfkmgaghklaa
open Go.RowKit Ex Go.Maps
set_option maxRecDepth 100000
def key3 (k a b : Int) : Nat → Int := fun i => if i = 0 then k else if i = 1 then a else b
def keyF (x : EvT) : Nat → Int := key3 x.k x.a x.b
def keyV (x : EvT) : Value := .agg (arr .i64 3 (keyF x))
theorem laid3 : laidOutB Try.prog = true := by kernel_rfl
theorem row3 : (87 : TypeId) < Try.prog.types.size := of_decide_eq_true (by kernel_rfl)
theorem wide3 : (match Try.prog.underlying 87 with | some (.array _ _) | some (.struct _) => true | _ => false) = true := by kernel_rfl
theorem law3 : Go.Maps.Keyed Try.prog 87 := Go.Maps.Keyed.of_law (deep_law_laid laid3 (m := 3) (by omega) row3 (by kernel_rfl) wide3)
theorem types3 : ∃ m, Try.prog.types.size = m + 2 := ⟨Try.prog.types.size - 2, by kernel_rfl⟩
theorem keyType3 : Try.prog.keyType 87 = true := by kernel_rfl
theorem cells3 : Try.prog.cellsOf 87 = 3 := by kernel_rfl
theorem cellsI3 : Try.prog.cellsOf 3 = 1 := by kernel_rfl
theorem zeroI3 (w : World) : (zeroValue 3).run Try.prog w = .ok (.int .i64 0) w := by kernel_rfl
theorem arr3 (g : Nat → Int) : (arr .i64 3 g).toList = [.int .i64 (g 0), .int .i64 (g 1), .int .i64 (g 2)] := by
  unfold arr; simp [List.range_succ]
theorem wf64 {x : Int} (h : N64 x) : (Lit.int .i64 x).wf = true := by
  obtain ⟨h0, h1⟩ := h
  simp [Lit.wf, IntKind.min, IntKind.max, IntKind.signed, IntKind.bits]; omega
theorem key_of3 (g : Nat → Int) (h : ∀ i, i < 3 → N64 (g i)) : ∃ l, keyOf Try.prog 87 (.agg (arr .i64 3 g)) = some l := by
  have h0 := wf64 (h 0 (by omega))
  have h1 := wf64 (h 1 (by omega))
  have h2 := wf64 (h 2 (by omega))
  obtain ⟨m, hm⟩ := types3
  have hf : (Value.agg (arr .i64 3 g)).formed Try.prog 87 = true := by
    simp [Value.formed, Try.underlying87, cells3, arr_size]
  unfold keyOf
  simp only [Try.underlying87]
  rw [if_pos (by simp [keyType3, hf]), hm]
  simp only [Value.cells, arr3]
  unfold Program.keyLits
  simp [Try.underlying87, cells3, cellsI3]
  simp [Program.keyLits, Try.underlying3, List.range_succ, h0, h1, h2]
theorem EvI.key {x : EvT} (h : EvI x) : ∃ l, keyOf Try.prog 87 (keyV x) = some l := key_of3 _ fun i hi => by
  unfold keyF key3
  split
  · exact h.k
  split
  · exact h.a
  · exact h.b
theorem keyV_iff {x y : EvT} : keyV x = keyV y ↔ sameK x y = true := by
  rw [sameK_iff]
  constructor
  · intro h
    have h2 : arr .i64 3 (keyF x) = arr .i64 3 (keyF y) := by unfold keyV at h; injection h
    have e : ∀ i, i < 3 → keyF x i = keyF y i := fun i hi => by
      have h1 := arr_get .i64 3 (keyF x) hi
      rw [h2, arr_get .i64 3 (keyF y) hi] at h1
      injection h1 with h1
      injection h1 with h3 h4
      exact h4.symm
    exact ⟨e 0 (by omega), e 1 (by omega), e 2 (by omega)⟩
  · rintro ⟨h1, h2, h3⟩
    unfold keyV keyF; rw [h1, h2, h3]
abbrev Places (w : World) (b n : Nat) (D : DataW Unit) : Prop := w.ownsMap Try.prog 87 (plainElem Try.prog 3) b n D
/-- The map tells where each field stands among the sets. -/
structure MapF (D : DataW Unit) (f : List EvT) : Prop where
  m : IsMap D
  h : ∀ (x : EvT) (l : Lit), keyOf Try.prog 87 (keyV x) = some l → has D l = f.any fun y => sameK y x
  a : ∀ (x : EvT) (l : Lit) (i : Nat) (y : EvT), keyOf Try.prog 87 (keyV x) = some l → f[i]? = some y → sameK y x = true → ∀ z, D.atKey l z = .lit (.int .i64 (i : Int))
theorem MapF.nil : MapF (.map []) [] := ⟨isMap_empty, fun _ _ _ => rfl, fun _ _ _ _ _ h => by simp at h⟩
theorem sameK_refl (x : EvT) : sameK x x = true := sameK_iff.2 ⟨rfl, rfl, rfl⟩
/-- A new field. -/
theorem MapF.new {D : DataW Unit} {f : List EvT} (h : MapF D f) {x : EvT} {l : Lit} (hl : keyOf Try.prog 87 (keyV x) = some l) (hn : has D l = false) : MapF (D.put l (.lit (.int .i64 (f.length : Int)))) (f ++ [x]) := by
  have hno : ∀ y ∈ f, sameK y x = false := by
    have := h.h x l hl
    rw [hn] at this
    have := List.any_eq_false.1 this.symm
    intro y hy
    simpa using this y hy
  refine ⟨h.m.put _ _, fun y l2 h2 => ?_, fun y l2 i z h2 hz hs d => ?_⟩
  · by_cases e : l2 = l
    · subst e
      have hk := keyV_iff.1 (law3.inj hl h2)
      rw [has_put_same h.m (law3.key hl)]
      simp [List.any_append, hk]
    · rw [has_put_other e, h.h y l2 h2]
      have hk : sameK x y = false := by
        cases hs : sameK x y
        · rfl
        · have := keyV_iff.2 hs
          rw [this, h2] at hl
          exact absurd (Option.some.inj hl) e
      simp [List.any_append, hk]
  · by_cases hi : i < f.length
    · rw [List.getElem?_append_left hi] at hz
      have e : l2 ≠ l := by
        rintro rfl
        have hk := keyV_iff.1 (law3.inj hl h2)
        have := hno z (List.mem_of_getElem? hz)
        rw [sameK_symm, ← sameK_cong hk, sameK_symm] at hs
        rw [hs] at this; cases this
      rw [atKey_put_other e]
      exact h.a y l2 i z h2 hz hs d
    · have hi2 : i = f.length := by
        have := (List.getElem?_eq_some_iff.1 hz).1
        simp at this; omega
      subst hi2
      rw [List.getElem?_append_right (Nat.le_refl _)] at hz
      obtain rfl : x = z := by simpa using hz
      have e : l2 = l := by
        have := keyV_iff.2 hs
        rw [this, h2] at hl
        exact Option.some.inj hl
      subst e
      rw [atKey_put_same h.m (law3.key hl)]
/-- A field whose last number is another one. -/
theorem MapF.set_ {D : DataW Unit} {f : List EvT} (h : MapF D f) {i : Nat} {y : EvT} (hy : f[i]? = some y) (d : Int) : MapF D (f.set i { y with d := d }) := by
  have hi := (List.getElem?_eq_some_iff.1 hy).1
  refine ⟨h.m, fun x l hl => ?_, fun x l j z hl hz hs e => ?_⟩
  · rw [h.h x l hl, Bool.eq_iff_iff, List.any_eq_true, List.any_eq_true]
    constructor
    · rintro ⟨z, hz, hs⟩
      obtain ⟨j, hj⟩ := List.mem_iff_getElem?.1 hz
      by_cases ej : i = j
      · subst ej
        rw [hy] at hj; injection hj with hj; subst hj
        exact ⟨_, List.mem_iff_getElem?.2 ⟨i, List.getElem?_set_self hi⟩, hs⟩
      · exact ⟨z, List.mem_iff_getElem?.2 ⟨j, by rw [List.getElem?_set_ne ej]; exact hj⟩, hs⟩
    · rintro ⟨z, hz, hs⟩
      obtain ⟨j, hj⟩ := List.mem_iff_getElem?.1 hz
      by_cases ej : i = j
      · subst ej
        rw [List.getElem?_set_self hi] at hj; injection hj with hj; subst hj
        exact ⟨y, List.mem_of_getElem? hy, hs⟩
      · rw [List.getElem?_set_ne ej] at hj
        exact ⟨z, List.mem_of_getElem? hj, hs⟩
  · by_cases ej : i = j
    · subst ej
      rw [List.getElem?_set_self hi] at hz; injection hz with hz; subst hz
      exact h.a x l i y hl hy hs e
    · rw [List.getElem?_set_ne ej] at hz
      exact h.a x l j z hl hz hs e
theorem ins_none {f : List EvT} {x : EvT} (h : (f.any fun y => sameK y x) = false) : insE f x = f ++ [x] :=
  ins_new fun y hy => by simpa using List.any_eq_false.1 h y hy
end Go.Proofs.Ytncmfkmgaghklaa
namespace Go.Proofs.Ytncmfkmgaghklaa
open Go.RowKit Ex
set_option maxRecDepth 100000
set_option maxHeartbeats 0 in
theorem parts_code (e : EvT) (w : World) : Calls Try.prog 47 #[evV e] w fun en w' => en = .returned (.bool (isCut e)) ∧ Below w.heap.size w w' := by
  obtain ⟨r, hr⟩ : ∃ r, r = isCut e := ⟨_, rfl⟩
  rw [← hr]
  have hc : r = ((e.k == 0) || (e.k == 5)) := by rw [hr]; unfold isCut; rfl
  clear hr
  go_enter Try.func47, Try.ntmps47
  go_upto_region 1 with fail
  obtain ⟨w1, hw1⟩ : ∃ w1, w1 = w.alloc (.cells (evC e) 41) := ⟨_, rfl⟩
  have hrow : EvB w1 w.heap.size e := by rw [hw1]; exact heap_alloc_new _ _
  have hb1 : Below w.heap.size w w1 := by rw [hw1]; exact (Below.refl _ _).alloc (Nat.le_refl _) _
  show Code.wp _ _ _ _ (w.alloc (.cells (evC e) 41))
  rw [← hw1]
  have c0 := hrow.cells.1
  clear hw1 hrow
  by_cases k0 : e.k = 0
  · have d0 : (e.k == 0) = true := by simp [k0]
    obtain rfl : r = true := by rw [hc, d0]; rfl
    clear hc k0
    go_wp2_with fail
    go_ret
    exact ⟨rfl, hb1⟩
  · have d0 : (e.k == 0) = false := by simp [k0]
    obtain ⟨q, hq⟩ : ∃ q, q = (e.k == 5) := ⟨_, rfl⟩
    obtain rfl : r = q := by rw [hc, d0, hq]; rfl
    have d5 := hq.symm
    clear hc k0 hq
    go_wp2_with fail
    go_ret
    exact ⟨rfl, hb1⟩
theorem keyC_eq (e : EvT) : arr .i64 3 (keyF e) = #[.int .i64 e.k, .int .i64 e.a, .int .i64 e.b] := Array.toList_inj.1 (arr3 (keyF e))
theorem zero3' : #[Value.int .i64 0, Value.int .i64 0, Value.int .i64 0] = arr .i64 3 (fun _ => 0) := (arr_zero .i64 3).symm
theorem size3' (e : EvT) : (Try.prog.info? 87).map (·.size) = some (arr .i64 3 (keyF e)).size := by rw [arr_size]; kernel_rfl
theorem build_key (k a b : Int) (W : World) : (Instr.build 87 #[(0, .int .i64 k), (1, .int .i64 a), (2, .int .i64 b)]).run Try.prog W = .ok (.agg #[.int .i64 k, .int .i64 a, .int .i64 b]) W := by kernel_rfl
theorem wpList_buildKey {ops : Array Oper} {rest : List Oper} {o : Oper} {a : Act} {w : World} {Q : Exit → Act → World → Prop} (hg : o.guard = none) (x y z : Operand) (ho : o.op = .build 87 #[(0, x), (1, y), (2, z)])
    (e : EvT) (hx : a.eval x = .int .i64 e.k) (hy : a.eval y = .int .i64 e.a) (hz : a.eval z = .int .i64 e.b) (hK : wpList Try.prog ops Q rest (a.put o.dst (keyV e)) w) : wpList Try.prog ops Q (o :: rest) a w := by
  refine wpList_plain hg fun K' hK' => ?_
  unfold Oper.wp
  unfold keyV at hK
  rw [keyC_eq] at hK
  simp [execOp, ho, hx, hy, hz, build_key, Result.andThen]
  exact hK' _ _ hK
set_option maxHeartbeats 0 in
theorem key_code (e : EvT) (w : World) : Calls Try.prog 57 #[evV e] w fun en w' => en = .returned (keyV e) ∧ Below w.heap.size w w' := by
  have hz3 := zero3'
  go_enter Try.func57, Try.ntmps57
  go_upto_region 1 with fail
  have hb0 : Below w.heap.size w (w.alloc (.cells (evC e) 41)) := (Below.refl _ _).alloc (Nat.le_refl _) _
  have hb1 : Below (w.alloc (.cells (evC e) 41)).heap.size (w.alloc (.cells (evC e) 41)) ((w.alloc (.cells (evC e) 41)).alloc (.cells (arr .i64 3 fun _ => 0) 87)) := (Below.refl _ _).alloc (Nat.le_refl _) _
  have hrow : EvB ((w.alloc (.cells (evC e) 41)).alloc (.cells (arr .i64 3 fun _ => 0) 87)) w.heap.size e := EvB.keep (heap_alloc_new _ _) hb1
  have hk : ((w.alloc (.cells (evC e) 41)).alloc (.cells (arr .i64 3 fun _ => 0) 87)).heap[w.heap.size + 1]? = some (.cells (arr .i64 3 fun _ => 0) 87 (0, 0)) := by
    have := heap_alloc_new (w.alloc (.cells (evC e) 41)) (.cells (arr .i64 3 fun _ => 0) 87)
    rwa [World.size_alloc] at this
  have hbw := keepB hb1 hb0
  obtain ⟨w1, hw1⟩ : ∃ w1, w1 = (w.alloc (.cells (evC e) 41)).alloc (.cells (arr .i64 3 fun _ => 0) 87) := ⟨_, rfl⟩
  rw [← hw1] at hrow hk hbw
  show Code.wp _ _ _ _ ((w.alloc (.cells (evC e) 41)).alloc (.cells (arr .i64 3 fun _ => 0) 87))
  rw [← hw1]
  obtain ⟨g, hg⟩ : ∃ g, g = w.heap.size := ⟨_, rfl⟩
  obtain ⟨gk, hgk⟩ : ∃ gk, gk = w.heap.size + 1 := ⟨_, rfl⟩
  rw [← hgk] at hk
  have hwg : w.heap.size ≤ gk := by omega
  rw [← hg] at hrow
  rw [← hg, show g + 1 = gk by omega]
  have c0 := hrow.cells.1
  have c1 := hrow.cells.2.1
  have c2 := hrow.cells.2.2.1
  have hsz := size3' e
  have hs0 : (arr .i64 3 fun _ => 0).size = (arr .i64 3 (keyF e)).size := by rw [arr_size, arr_size]
  have hone := arr_one .i64 3 (keyF e)
  clear hw1 hb0 hb1 hg hgk hrow
  go_wp2_with (first
    | (refine wpList_buildKey rfl (.tmp 4) (.tmp 6) (.tmp 8) rfl e rfl rfl rfl ?_)
    | (refine wpList_store_row rfl 87 (.tmp 2) (.tmp 9) rfl gk _ rfl rfl 87 (arr .i64 3 fun _ => 0) hk hsz hs0 hone ?_))
  refine bodyPost_ret (v := keyV e) ?_ rfl ⟨rfl, below_setRow hbw _ _ hwg⟩
  exact results_cellE (ty := 87) (p := 2) (by kernel_rfl) _ _ gk 87 _ (0, 0) _ rfl (setRow_heap _ _ _ _ _ _ hk) Try.underlying87 rfl hsz
end Go.Proofs.Ytncmfkmgaghklaa
namespace Go.Proofs.Ytncmfkmgaghklaa
open Go.RowKit Ex Go.Maps
set_option maxRecDepth 100000
/-- What came out, moves behind it; the sets; the map. -/
structure SpI (base gm : Nat) (o0 : List EvT) (A : Option Addr) (n c : Nat) (As : Option Addr) (ns cs : Nat) (D : DataW Unit) (m f : List EvT) (w W : World) : Prop where
  b : Below base w W
  ho : OwnV W base A n c (o0 ++ m)
  hf : OwnV W base As ns cs f
  hm : Places W gm ns D
  mf : MapF D f
  d : ∀ j, (Value.slice A n c).ownBlock = some j → (Value.slice As ns cs).ownBlock ≠ some j
  g : base ≤ gm
  ap : Apart f
theorem gb_below {w w' : World} (h : Below w.heap.size w w') (row : Option Nat) : w.grownBy w' row := ⟨h.os, h.tape, h.output, h.size, fun k hk _ => h.block k hk⟩
theorem OwnV.gone {W W' : World} {base n c : Nat} {A : Option Addr} {l : List EvT} {row : Option Nat} (h : OwnV W base A n c l) (hg : W.grownBy W' row) (hne : ∀ j, (Value.slice A n c).ownBlock = some j → some j ≠ row) : OwnV W' base A n c l :=
  ⟨h.len, owns_keep h.o fun j hj => hg.block j (h.o.lt j hj).2 (hne j hj)⟩
theorem OwnV.not_map {W : World} {base n c gm k : Nat} {A : Option Addr} {l : List EvT} {D : DataW Unit} (h : OwnV W base A n c l) (hm : Places W gm k D) : ∀ j, (Value.slice A n c).ownBlock = some j → j ≠ gm := fun j hj e => by
  obtain ⟨_, cur, hc⟩ := own_ty h.o hj
  obtain ⟨es, clock, hb, _⟩ := hm
  subst e
  rw [hc] at hb; cases hb
section
variable {base gm n c ns cs : Nat} {o0 m f : List EvT} {A As : Option Addr} {D : DataW Unit} {w W W' : World}
theorem SpI.size (h : SpI base gm o0 A n c As ns cs D m f w W) : base ≤ W.heap.size := Nat.le_of_lt (Nat.lt_of_le_of_lt h.g h.hm.lt)
theorem SpI.keep (h : SpI base gm o0 A n c As ns cs D m f w W) (hb : Below W.heap.size W W') : SpI base gm o0 A n c As ns cs D m f w W' :=
  ⟨h.b.trans (hb.mono h.size), h.ho.below hb, h.hf.below hb, h.hm.kept (gb_below hb none) (by simp), h.mf, h.d, h.g, h.ap⟩
/-- More came out. -/
theorem SpI.addO (h : SpI base gm o0 A n c As ns cs D m f w W) {A' : Option Addr} {n' c' : Nat} {m' : List EvT} (ho : OwnV W' base A' n' c' (o0 ++ m')) (hg : W.grownBy W' (Value.slice A n c).ownBlock)
    (hat : (Value.slice A' n' c').ownBlock = (Value.slice A n c).ownBlock ∨ (Value.slice A' n' c').ownBlock = some W.heap.size) : SpI base gm o0 A' n' c' As ns cs D m' f w W' := by
  refine ⟨h.ho.grown h.b h.size hg, ho, h.hf.gone hg fun j hj e => h.d j e.symm hj, h.hm.kept hg fun e => h.ho.not_map h.hm gm e.symm rfl, h.mf, fun j hj e => ?_, h.g, h.ap⟩
  rcases hat with h1 | h1
  · rw [h1] at hj; exact h.d j hj e
  · rw [h1] at hj
    injection hj with hj
    have := (h.hf.o.lt j e).2
    omega
/-- A field more: the map, then the sets. -/
theorem SpI.addM (h : SpI base gm o0 A n c As ns cs D m f w W) (hg : W.grownBy W' (some gm)) : Below base w W' ∧ OwnV W' base A n c (o0 ++ m) ∧ OwnV W' base As ns cs f ∧ base ≤ W'.heap.size :=
  ⟨h.b.grown hg h.size (fun j hj => by injection hj with hj; rw [← hj]; exact h.g), h.ho.gone hg fun j hj e => by injection e with e; exact h.ho.not_map h.hm j hj e, h.hf.gone hg fun j hj e => by injection e with e; exact h.hf.not_map h.hm j hj e, Nat.le_trans h.size hg.size⟩
theorem SpI.addF {x : EvT} {kl : Lit} {As' : Option Addr} {cs' : Nat} {W'' : World} (h : SpI base gm o0 A n c As ns cs D m f w W) (hl : keyOf Try.prog 87 (keyV x) = some kl) (hn : has D kl = false) (hap : Apart (f ++ [x]))
    (hb : Below base w W') (ho : OwnV W' base A n c (o0 ++ m)) (hf' : OwnV W' base As ns cs f) (hm : Places W' gm (ns + 1) (D.put kl (.lit (.int .i64 (ns : Int)))))
    (hf : OwnV W'' base As' (ns + 1) cs' (f ++ [x])) (hg : W'.grownBy W'' (Value.slice As ns cs).ownBlock)
    (hat : (Value.slice As' (ns + 1) cs').ownBlock = (Value.slice As ns cs).ownBlock ∨ (Value.slice As' (ns + 1) cs').ownBlock = some W'.heap.size) :
    SpI base gm o0 A n c As' (ns + 1) cs' (D.put kl (.lit (.int .i64 (ns : Int)))) m (f ++ [x]) w W'' := by
  have hsz : base ≤ W'.heap.size := Nat.le_of_lt (Nat.lt_of_le_of_lt h.g hm.lt)
  refine ⟨hf'.grown hb hsz hg, ho.gone hg fun j hj e => h.d j hj e.symm, hf, hm.kept hg fun e => hf'.not_map hm gm e.symm rfl, ?_, fun j hj e => ?_, h.g, hap⟩
  · have := h.mf.new hl hn
    rw [← h.hf.len] at this
    exact this
  · rcases hat with h1 | h1
    · rw [h1] at e; exact h.d j hj e
    · rw [h1] at e
      injection e with e
      have := (ho.o.lt j hj).2
      omega
theorem SpI.setF {g i : Nat} {y : EvT} {d : Int} (h : SpI base gm o0 A n c (some ⟨g, 0, none⟩) ns cs D m f w W) (hbg : base ≤ g) (hy : f[i]? = some y)
    (hf : OwnV (W.setCell ⟨g, i * 6 + 4, none⟩ (.int .i64 d)) base (some ⟨g, 0, none⟩) ns cs (f.set i { y with d := d })) (hap : Apart (f.set i { y with d := d })) :
    SpI base gm o0 A n c (some ⟨g, 0, none⟩) ns cs D m (f.set i { y with d := d }) w (W.setCell ⟨g, i * 6 + 4, none⟩ (.int .i64 d)) := by
  have hg : W.grownBy (W.setCell ⟨g, i * 6 + 4, none⟩ (.int .i64 d)) (some g) := ⟨rfl, rfl, rfl, by simp, fun k _ hne => heap_setCell_other W ⟨g, i * 6 + 4, none⟩ k _ (fun e => hne (by rw [e]))⟩
  have hgg : (Value.slice (some ⟨g, 0, none⟩) ns cs).ownBlock = some g := rfl
  exact ⟨h.b.grown hg h.size (fun j hj => by injection hj with hj; rw [← hj]; exact hbg), h.ho.gone hg fun j hj e => h.d j hj (by rw [hgg, e]), hf, h.hm.kept hg fun e => h.hf.not_map h.hm g hgg (by injection e with e; exact e.symm), h.mf.set_ hy d, h.d, h.g, hap⟩
end
end Go.Proofs.Ytncmfkmgaghklaa
namespace Go.Proofs.Ytncmfkmgaghklaa
open Go.RowKit Ex
set_option maxRecDepth 100000
/-- Cells written one behind the other: the block stands, what lies ahead of them is as it was. -/
theorem setCells_block (g : Nat) (t : TypeId) : ∀ (vs : List Value) (o : Nat) (W : World) (cur : Array Value), W.heap[g]? = some (.cells cur t (0, 0)) →
    ∃ cur', (W.setCells g o vs).heap[g]? = some (.cells cur' t (0, 0)) ∧ cur'.size = cur.size ∧ (∀ p, p < o → cur'[p]? = cur[p]?) ∧ (∀ k, k ≠ g → (W.setCells g o vs).heap[k]? = W.heap[k]?) ∧ (W.setCells g o vs).heap.size = W.heap.size ∧
      (W.setCells g o vs).os = W.os ∧ (W.setCells g o vs).tape = W.tape ∧ (W.setCells g o vs).output = W.output
  | [], o, W, cur, h => ⟨cur, h, rfl, fun _ _ => rfl, fun _ _ => rfl, rfl, rfl, rfl, rfl⟩
  | v :: r, o, W, cur, h => by
    obtain ⟨cur', h1, h2, h3, h4, h5, h6, h7, h8⟩ := setCells_block g t r (o + 1) (W.setCell ⟨g, o, none⟩ v) (cur.setIfInBounds o v) (heap_setCell_same W g o cur _ v h)
    refine ⟨cur', h1, by rw [h2, Array.size_setIfInBounds], fun p hp => ?_, fun k hk => ?_, ?_, h6, h7, h8⟩
    · rw [h3 p (by omega), Array.getElem?_setIfInBounds_ne (by omega)]
    · exact (h4 k hk).trans (heap_setCell_other W ⟨g, o, none⟩ k v hk)
    · rw [show W.setCells g o (v :: r) = (W.setCell ⟨g, o, none⟩ v).setCells g (o + 1) r from rfl, h5]; simp
section
variable {W w : World} {base n c g : Nat} {l : List EvT}
/-- One event written over. -/
theorem OwnV.setE (h : OwnV W base (some ⟨g, 0, none⟩) n c l) {i : Nat} (hi : i < l.length) (e : EvT) : OwnV (W.setCells g (i * 6) (evC e).toList) base (some ⟨g, 0, none⟩) n c (l.set i e) := by
  have step : ∀ {W' : World} {x y : EvT} {j : Nat} {v : Value}, OwnV W' base (some ⟨g, 0, none⟩) n c (l.set i x) → j < 6 → (evC x).setIfInBounds j v = evC y → OwnV (W'.setCell ⟨g, i * 6 + j, none⟩ v) base (some ⟨g, 0, none⟩) n c (l.set i y) := by
    intro W' x y j v hx hj hv
    obtain ⟨g2, hg2, _, _, _, _, hs⟩ := hx.set_ (i := i) (j := j) (by simpa using hi) hj
    obtain rfl : g = g2 := by injection hg2 with hg2; injection hg2
    have := hs v y (by rw [List.getElem_set_self]; exact hv)
    rwa [List.set_set] at this
  have h0 : OwnV W base (some ⟨g, 0, none⟩) n c (l.set i l[i]) := by rw [List.set_getElem_self]; exact h
  obtain ⟨x, hx⟩ : ∃ x, x = l[i] := ⟨_, rfl⟩
  rw [← hx] at h0
  obtain ⟨k0, a0, b0, c0, d0, e0⟩ := x
  obtain ⟨k, a, b, c', d, f⟩ := e
  have h1 := step (y := ⟨k, a0, b0, c0, d0, e0⟩) (v := .int .i64 k) (j := 0) h0 (by omega) rfl
  have h2 := step (y := ⟨k, a, b0, c0, d0, e0⟩) (v := .int .i64 a) (j := 1) h1 (by omega) rfl
  have h3 := step (y := ⟨k, a, b, c0, d0, e0⟩) (v := .int .i64 b) (j := 2) h2 (by omega) rfl
  have h4 := step (y := ⟨k, a, b, c', d0, e0⟩) (v := .int .i64 c') (j := 3) h3 (by omega) rfl
  have h5 := step (y := ⟨k, a, b, c', d, e0⟩) (v := .int .i64 d) (j := 4) h4 (by omega) rfl
  have h6 := step (y := ⟨k, a, b, c', d, f⟩) (v := .int .i64 f) (j := 5) h5 (by omega) rfl
  exact h6
theorem OwnV.block_ (h : OwnV W base (some ⟨g, 0, none⟩) n c l) : ∃ cur, W.heap[g]? = some (.cells cur 41 (0, 0)) ∧ base ≤ g ∧ n ≤ c ∧ c ≤ maxLen ∧ cur.size = c * 6 ∧ cur.toList.take (n * 6) = flatV l := by
  rcases h.o.2 with ⟨hv, _⟩ | ⟨g', cap, cur, hv, hb, hg, hc, hm, hs, ht⟩
  · cases hv
  · injection hv with h1 _ h3
    injection h1 with h1
    injection h1 with h1
    subst h1 h3
    exact ⟨cur, hg, hb, hc, hm, hs, ht⟩
theorem OwnV.there (h : OwnV W base (some ⟨g, 0, none⟩) n c l) {i m : Nat} (hi : i * 6 + m ≤ n * 6) : W.there g (i * 6) m := fun j hj => by
  obtain ⟨cur, hg, _, hc, _, hs, _⟩ := h.block_
  refine ⟨?_, frozen_of_row W g (i * 6 + j) cur _ hg⟩
  rw [cell_of_row W g (i * 6 + j) cur _ _ hg, Array.getElem?_eq_getElem (by rw [hs]; omega)]; rfl
/-- The first ones alone, whatever is written behind them. -/
theorem OwnV.cutTo (h : OwnV W base (some ⟨g, 0, none⟩) n c l) {i : Nat} (hi : i ≤ n) (vs : List Value) : OwnV (W.setCells g (i * 6) vs) base (some ⟨g, 0, none⟩) i c (l.take i) := by
  obtain ⟨cur, hg, hb, hc, hm, hs, ht⟩ := h.block_
  obtain ⟨cur', hg', hs', hp', _⟩ := setCells_block g _ vs (i * 6) W cur hg
  have hl := h.len
  have hlen : (l.take i).length = i := by rw [List.length_take]; omega
  refine ⟨hlen.symm, by rw [flatV_len, hlen], .inr ⟨g, c, cur', rfl, hb, hg', by omega, hm, by rw [hs', hs], ?_⟩⟩
  have e1 : flatV (l.take i) = (flatV l).take (i * 6) := by
    have : flatV l = flatV (l.take i) ++ flatV (l.drop i) := by rw [← flatV_app, List.take_append_drop]
    rw [this]
    exact (List.take_left' (by rw [flatV_len, hlen])).symm
  rw [e1, ← ht, List.take_take, show min (i * 6) (n * 6) = i * 6 by omega]
  refine List.ext_getElem? fun p => ?_
  by_cases hpl : p < i * 6
  · rw [List.getElem?_take_of_lt hpl, List.getElem?_take_of_lt hpl, Array.getElem?_toList, Array.getElem?_toList, hp' p hpl]
  · rw [List.getElem?_eq_none (by rw [List.length_take]; omega), List.getElem?_eq_none (by rw [List.length_take]; omega)]
end
/-- Whether what an event sets is what there was. -/
def cdB (e : EvT) : Bool := e.c == e.d
theorem fin_filter (f : List EvT) : finE f = f.filter fun e => !cdB e := by
  unfold finE cdB
  congr 1; funext e
  by_cases h : e.c = e.d <;> simp [h]
/-- What DeleteFunc's row holds: what was kept of the first j in the first i places, behind j what was there. -/
structure KeptV (f dk : List EvT) (i j : Nat) : Prop where
  len : dk.length = f.length
  lo : dk.take i = finE (f.take j)
  hi : dk.drop j = f.drop j
  lt : i < j
  le : j ≤ f.length
theorem fin_take {f : List EvT} {j : Nat} {x : EvT} (h : f[j]? = some x) : finE (f.take (j + 1)) = finE (f.take j) ++ (if cdB x = true then [] else [x]) := by
  rw [take_snoc h, fin_filter, fin_filter, List.filter_append]
  congr 1
  cases hx : cdB x <;> simp [hx]
theorem KeptV.start {f : List EvT} {k : Nat} {x : EvT} (hx : f[k]? = some x) (hc : cdB x = true) (ha : ∀ (j : Nat) (y : EvT), j < k → f[j]? = some y → cdB y = false) : KeptV f f k (k + 1) := by
  have hk := (List.getElem?_eq_some_iff.1 hx).1
  refine ⟨rfl, ?_, rfl, by omega, by omega⟩
  rw [fin_take hx, if_pos hc, List.append_nil, fin_filter]
  symm
  rw [List.filter_eq_self]
  intro y hy
  obtain ⟨j, hj⟩ := List.mem_iff_getElem?.1 hy
  have hjl : j < k := by have := (List.getElem?_eq_some_iff.1 hj).1; rw [List.length_take] at this; omega
  rw [List.getElem?_take_of_lt hjl] at hj
  simp [ha j y hjl hj]
theorem KeptV.at_ {f dk : List EvT} {i j : Nat} (h : KeptV f dk i j) : dk[j]? = f[j]? := by
  have := congrArg (fun l : List EvT => l[0]?) h.hi
  simpa using this
theorem KeptV.skip {f dk : List EvT} {i j : Nat} {x : EvT} (h : KeptV f dk i j) (hx : f[j]? = some x) (hc : cdB x = true) : KeptV f dk i (j + 1) := by
  refine ⟨h.len, by rw [fin_take hx, if_pos hc, List.append_nil]; exact h.lo, ?_, by have := h.lt; omega, (List.getElem?_eq_some_iff.1 hx).1⟩
  rw [← List.drop_drop, ← List.drop_drop, h.hi]
theorem KeptV.keep {f dk : List EvT} {i j : Nat} {x : EvT} (h : KeptV f dk i j) (hx : f[j]? = some x) (hc : cdB x = false) : KeptV f (dk.set i x) (i + 1) (j + 1) := by
  have hj := (List.getElem?_eq_some_iff.1 hx).1
  have hl := h.lt
  have hn := h.len
  refine ⟨by rw [List.length_set]; exact hn, ?_, ?_, by omega, hj⟩
  · rw [fin_take hx, if_neg (by rw [hc]; simp), ← h.lo, take_snoc (x := x) (by rw [List.getElem?_set_self (by omega)]), List.take_set_of_le (Nat.le_refl _)]
  · rw [List.drop_set_of_lt (by omega), ← List.drop_drop, ← List.drop_drop, h.hi]
/-- A range of the row, while the row is written. -/
structure DF (w : World) (base g n c : Nat) (f dk : List EvT) (i j : Nat) (W : World) : Prop where
  o : OwnV W base (some ⟨g, 0, none⟩) n c dk
  g : w.grownBy W (some g)
  k : KeptV f dk i j
theorem grownBy_below {w W W' : World} {row : Option Nat} (h : w.grownBy W row) (hb : Below W.heap.size W W') : w.grownBy W' row :=
  ⟨hb.os.trans h.os, hb.tape.trans h.tape, hb.output.trans h.output, Nat.le_trans h.size hb.size, fun k hk hr => (hb.block k (Nat.lt_of_lt_of_le hk h.size)).trans (h.block k hk hr)⟩
theorem grownBy_cells {w W : World} {base g n c : Nat} {l : List EvT} (h : w.grownBy W (some g)) (ho : OwnV W base (some ⟨g, 0, none⟩) n c l) (o : Nat) (vs : List Value) : w.grownBy (W.setCells g o vs) (some g) := by
  obtain ⟨cur, hg, _⟩ := ho.block_
  obtain ⟨_, _, _, _, h4, h5, h6, h7, h8⟩ := setCells_block g _ vs o W cur hg
  exact ⟨h6.trans h.os, h7.trans h.tape, h8.trans h.output, by rw [h5]; exact h.size, fun k hk hr => (h4 k (fun e => hr (by rw [e]))).trans (h.block k hk hr)⟩
section
variable {w W W' : World} {base g n c i j : Nat} {f dk : List EvT}
theorem DF.keep (h : DF w base g n c f dk i j W) (hb : Below W.heap.size W W') : DF w base g n c f dk i j W' := ⟨h.o.below hb, grownBy_below h.g hb, h.k⟩
theorem DF.skip (h : DF w base g n c f dk i j W) {x : EvT} (hx : f[j]? = some x) (hc : cdB x = true) : DF w base g n c f dk i (j + 1) W := ⟨h.o, h.g, h.k.skip hx hc⟩
theorem DF.put (h : DF w base g n c f dk i j W) {x : EvT} (hx : f[j]? = some x) (hc : cdB x = false) : DF w base g n c f (dk.set i x) (i + 1) (j + 1) (W.setCells g (i * 6) (evC x).toList) :=
  ⟨h.o.setE (by have := h.k.lt; have := h.k.le; have := h.k.len; omega) x, grownBy_cells h.g h.o _ _, h.k.keep hx hc⟩
end
/-- clear of events of the call's own. -/
theorem run_clearV {W : World} {base g n c : Nat} {l : List EvT} (ty : TypeId) (h : OwnV W base (some ⟨g, 0, none⟩) n c l) {i c2 : Nat} (hi : i < n) :
    ∃ vs, (Builtin.clear_ #[31] ty #[.slice (some ⟨g, i * 6, none⟩) (n - i) c2]).run Try.prog W = .ok (.tuple #[]) (W.setCells g (i * 6) vs) := by
  obtain ⟨m, hm⟩ : ∃ m, n - i = m + 1 := ⟨n - i - 1, by omega⟩
  have hz : ∀ w, (zeroValue 41).run Try.prog w = .ok (evV ev0) w := by intro w; kernel_rfl
  refine ⟨(Builtin.zeroCells (evV ev0).cells (n - i)).toList, ?_⟩
  have hlen : (Builtin.zeroCells (evV ev0).cells (n - i)).toList.length = (n - i) * 6 := by simp [Builtin.zeroCells, evV, Value.cells]
  have hst := run_storeCells_cells (P := Try.prog) g (i * 6) (Builtin.zeroCells (evV ev0).cells (n - i)).toList 0 W
    (fun j hj => by rw [hlen] at hj; exact ((h.there (i := i) (m := (n - i) * 6) (by omega)) j hj).1)
    (fun j hj => by rw [hlen] at hj; exact ((h.there (i := i) (m := (n - i) * 6) (by omega)) j hj).2)
    (fun v hv => by
      simp only [Builtin.zeroCells, Array.toList_map, List.mem_map] at hv
      obtain ⟨p, _, rfl⟩ := hv
      have h6 : (evV ev0).cells.size = 6 := rfl
      have hp : p % (evV ev0).cells.size < (evV ev0).cells.size := Nat.mod_lt _ (by rw [h6]; omega)
      rw [getElem!_pos (evV ev0).cells _ hp]
      exact Array.all_eq_true'.1 (evC_one ev0) _ (Array.getElem_mem hp))
  simp only [Nat.add_zero] at hst
  rw [hm] at hst ⊢
  simp [Builtin.clear_, run_underlying Try.underlying31, hz, hst]
theorem wpList_clearV {ops : Array Oper} {rest : List Oper} {o : Oper} {a : Act} {w : World} {Q : Exit → Act → World → Prop} (hgd : o.guard = none) (s : Operand)
    (ho : o.op = .call { callee := .builtin .clear, args := #[s], argTypes := #[31] })
    {base g n c : Nat} {l : List EvT} (h : OwnV w base (some ⟨g, 0, none⟩) n c l) {i c2 : Nat} (hi : i < n) (hs : a.eval s = .slice (some ⟨g, i * 6, none⟩) (n - i) c2)
    (hK : ∀ vs, wpList Try.prog ops Q rest (a.put o.dst (.tuple #[])) (w.setCells g (i * 6) vs)) : wpList Try.prog ops Q (o :: rest) a w := by
  refine wpList_plain hgd fun K' hK' => ?_
  obtain ⟨vs, hrun⟩ := run_clearV o.type h hi (c2 := c2)
  unfold Oper.wp execOp
  simp only [ho, resolve, invoke, builtin, Sem.run_bind, Sem.run_pure, Result.andThen_ok, List.map_toArray, List.map_cons, List.map_nil, hs, hrun]
  exact hK' _ _ (hK vs)
theorem slice_fromV (W : World) {g n c i : Nat} (hi : i ≤ n) (hc : i < c) : (Instr.slice 31 (.slice (some ⟨g, 0, none⟩) n c) (some (.int .i64 (i : Int))) none none).run Try.prog W = .ok (.slice (some ⟨g, i * 6, none⟩) (n - i) (c - i)) W := by
  rw [run_slice_l W 31 _ n c ev_elem .i64 (i : Int) (by omega) (by omega), ev_elem_size]
  simp only [Result.andThen_ok, sliced, Int.toNat_natCast]
  rw [if_neg (by omega)]
  simp [Addr.add_mid]
theorem slice_toV (W : World) {g n c i : Nat} (hi : i ≤ c) : (Instr.slice 31 (.slice (some ⟨g, 0, none⟩) n c) none (some (.int .i64 (i : Int))) none).run Try.prog W = .ok (.slice (some ⟨g, 0, none⟩) i c) W := by
  rw [run_slice_h W 31 _ n c ev_elem .i64 (i : Int) (by omega) (by omega), ev_elem_size]
  simp only [Result.andThen_ok, sliced, Int.toNat_natCast, Nat.sub_zero]
  split
  · rfl
  · simp [Addr.add_mid]
set_option maxHeartbeats 0 in
theorem cd_code (e : EvT) (w : World) : Calls Try.prog 59 #[evV e] w fun en w' => en = .returned (.bool (cdB e)) ∧ Below w.heap.size w w' := by
  obtain ⟨r, hr⟩ : ∃ r, r = cdB e := ⟨_, rfl⟩
  rw [← hr]
  have hc : (e.c == e.d) = r := by rw [hr]; rfl
  clear hr
  go_enter Try.func59, Try.ntmps59
  go_upto_region 1 with fail
  obtain ⟨w1, hw1⟩ : ∃ w1, w1 = w.alloc (.cells (evC e) 41) := ⟨_, rfl⟩
  have hrow : EvB w1 w.heap.size e := by rw [hw1]; exact heap_alloc_new _ _
  have hb1 : Below w.heap.size w w1 := by rw [hw1]; exact (Below.refl _ _).alloc (Nat.le_refl _) _
  show Code.wp _ _ _ _ (w.alloc (.cells (evC e) 41))
  rw [← hw1]
  have c3 := hrow.cells.2.2.2.1
  have c4 := hrow.cells.2.2.2.2.1
  clear hw1 hrow
  go_wp2_with fail
  go_ret
  exact ⟨rfl, hb1⟩
/-- What IndexFunc answers. -/
def IdxV (f : List EvT) (i : Int) : Prop := (i = -1 ∧ finE f = f) ∨ ∃ (k : Nat) (x : EvT), i = (k : Int) ∧ f[k]? = some x ∧ cdB x = true ∧ ∀ (j : Nat) (y : EvT), j < k → f[j]? = some y → cdB y = false
set_option linter.unusedSimpArgs false in
set_option maxHeartbeats 0 in
theorem idxV_code (A : Option Addr) (n c : Nat) (f : List EvT) (w : World) (hr : RdV w.heap.size w A f) (hl : n = f.length) (hn : n ≤ 70000) :
    Calls Try.prog 63 #[.slice A n c, .func (.func 59) #[] #[]] w fun en w' => ∃ i, en = .returned (.int .i64 i) ∧ IdxV f i ∧ Below w.heap.size w w' := by
  have HR := Lib.hid hr
  have HL := Lib.hid hl
  clear hr hl
  go_enter Try.func63, Try.ntmps63
  go_upto_region 2 with fail
  have HB := Lib.hid (Below.refl w.heap.size w)
  have HA : Hid (∀ (j : Nat) (y : EvT), j < 0 → f[j]? = some y → cdB y = false) := Lib.hid (fun _ _ h => absurd h (by omega))
  go_loopw [8] (fun i wr => ∃ k : Nat, i = .int .i64 ((k : Nat) : Int) ∧ k ≤ n ∧ Hid (∀ (j : Nat) (y : EvT), j < k → f[j]? = some y → cdB y = false) ∧ Hid (Below w.heap.size w wr)) (fun i _ => n - (intOf i).toNat)
  case atStart => exact ⟨0, rfl, by omega, HA, HB⟩
  case round =>
    clear HA HB
    obtain ⟨k, rfl, hk, HA, HB⟩ := hrel
    by_cases hlt : k < n
    · have hlt' : k < f.length := by rw [← HL.out]; exact hlt
      obtain ⟨b1, o1, ea, hb1, g1⟩ := HR.out.at_ hlt'
      subst ea
      have G1 := Lib.hid (range_below HB.out hb1 g1)
      obtain ⟨x, hx⟩ : ∃ x, x = f[k] := ⟨_, rfl⟩
      rw [← hx] at G1
      have HX := Lib.hid (show f[k]? = some x by rw [hx]; exact List.getElem?_eq_getElem hlt')
      have p0 : (0 : Int) ≤ (k : Int) := by omega
      have p1 : (k : Int) < (n : Int) := by omega
      clear hx g1 hb1 hlt'
      go_wp2_with (refine load_evm rfl (.tmp 14) rfl b1 (o1 + k * 6) rfl x G1.out ?_)
      refine (cd_code x wr).mono ?_
      rintro en w2 ⟨rfl, hb2⟩
      have HB2 := Lib.hid (keepB hb2 HB.out)
      obtain ⟨q, hq⟩ : ∃ q, q = cdB x := ⟨_, rfl⟩
      rw [← hq]
      cases q with
      | true =>
        have HF := Lib.hid (show IdxV f (k : Int) from .inr ⟨k, x, rfl, HX.out, hq.symm, HA.out⟩)
        clear hq hb2
        go_wp2_with fail
        go_ret
        exact ⟨_, rfl, HF.out, HB2.out⟩
      | false =>
        have HA2 := Lib.hid (show ∀ (j : Nat) (y : EvT), j < k + 1 → f[j]? = some y → cdB y = false from fun j y hj hy => by
          by_cases e : j = k
          · subst e
            rw [HX.out] at hy; injection hy with hy; rw [← hy]; exact hq.symm
          · exact HA.out j y (by omega) hy)
        clear hq hb2
        go_wp2_with fail
        go_roundw
        case rel => exact ⟨k + 1, by go_num, by omega, HA2, HB2⟩
        case measure => simp [intOf]; omega
    · obtain rfl : k = n := by omega
      have HF := Lib.hid (show IdxV f (-1) from .inl ⟨rfl, by
        rw [fin_filter, List.filter_eq_self]
        intro y hy
        obtain ⟨j, hj⟩ := List.mem_iff_getElem?.1 hy
        have := (List.getElem?_eq_some_iff.1 hj).1
        simp [HA.out j y (by rw [HL.out]; exact this) hj]⟩)
      go_wp2_with fail
      go_ret
      exact ⟨_, rfl, HF.out, HB.out⟩
/-- What DeleteFunc answers. -/
def DelP (w : World) (base : Nat) (A : Option Addr) (n c : Nat) (f : List EvT) (en : Ending) (w' : World) : Prop := ∃ n', en = .returned (.slice A n' c) ∧ OwnV w' base A n' c (finE f) ∧ w.grownBy w' (Value.slice A n c).ownBlock
set_option linter.unusedSimpArgs false in
set_option maxHeartbeats 0 in
theorem delV_code (base : Nat) (A : Option Addr) (n c : Nat) (f : List EvT) (w : World) (ho : OwnV w base A n c f) (hn : n ≤ 70000) :
    Calls Try.prog 58 #[.slice A n c, .func (.func 59) #[] #[]] w (DelP w base A n c f) := by
  have H := Lib.hid ho
  have hix := idxV_code A n c f w ho.rd ho.len hn
  clear ho
  go_enter Try.func58, Try.ntmps58
  go_upto_region 1 with fail
  go_wp2_with fail
  refine hix.mono ?_
  clear hix
  rintro en w1 ⟨i0, rfl, hi, hb1⟩
  rcases hi with ⟨rfl, hf⟩ | ⟨k, x, rfl, hx, hc, ha⟩
  · have HF := Lib.hid (show OwnV w1 base A n c (finE f) ∧ w.grownBy w1 (Value.slice A n c).ownBlock from ⟨by rw [hf]; exact H.out.below hb1, gb_below hb1 _⟩)
    clear hf hb1
    go_wp2_with fail
    go_ret
    exact ⟨_, rfl, HF.out.1, HF.out.2⟩
  · have hkl := (List.getElem?_eq_some_iff.1 hx).1
    have hkn : k < n := by rw [H.out.len]; exact hkl
    have hgA : ∃ g, A = some ⟨g, 0, none⟩ := by
      obtain ⟨g, e, _⟩ := H.out.set_ (i := k) (j := 0) hkl (by omega)
      exact ⟨g, e⟩
    obtain ⟨g, rfl⟩ := hgA
    have HD := Lib.hid (show DF w base g n c f f k (k + 1) w1 from ⟨H.out.below hb1, gb_below hb1 _, KeptV.start hx hc ha⟩)
    have HK := Lib.hid (And.intro (Nat.le_trans H.out.cap.1 (Nat.le_refl c)) H.out.len)
    have d0 : ((k : Int) == -1) = false := beq_eq_false_iff_ne.2 (by omega)
    clear hx hc ha hb1 hkl
    go_upto_region 5 with fail
    clear d0
    go_loopw [5, 6] (fun a b wr => ∃ (i j : Nat) (dk : List EvT), a = .int .i64 ((i : Nat) : Int) ∧ b = .int .i64 ((j : Nat) : Int) ∧ i ≤ 70000 ∧ j ≤ n ∧ Hid (DF w base g n c f dk i j wr)) (fun _ b _ => n - (intOf b).toNat)
    case atStart => exact ⟨k, k + 1, f, rfl, by go_num, by omega, by omega, HD⟩
    case round =>
      clear HD hkn
      obtain ⟨i, j, dk, rfl, rfl, hi, hj, HD⟩ := hrel
      by_cases hlt : j < n
      · have hlt' : j < f.length := by rw [← HK.out.2]; exact hlt
        obtain ⟨x, hx⟩ : ∃ x, x = f[j] := ⟨_, rfl⟩
        have HX := Lib.hid (show f[j]? = some x by rw [hx]; exact List.getElem?_eq_getElem hlt')
        have hdk : dk[j]? = some x := HD.out.k.at_.trans HX.out
        obtain ⟨b1, o1, ea, hb1, g1⟩ := HD.out.o.rd _ _ hdk
        obtain ⟨rfl, rfl⟩ : g = b1 ∧ 0 = o1 := by injection ea with ea; injection ea with e1 e2; exact ⟨e1, e2⟩
        rw [Nat.zero_add] at g1
        have G1 := Lib.hid g1
        have p0 : (0 : Int) ≤ (j : Int) := by omega
        have p1 : (j : Int) < (n : Int) := by omega
        have p2 : (n : Int) ≤ 70000 := by omega
        have q0 : (0 : Int) ≤ (i : Int) := by omega
        have hij := HD.out.k.lt
        have q1 : (i : Int) < (n : Int) := by omega
        have q2 : (i : Int) ≤ 70000 := by omega
        clear hx hdk hb1 g1 ea hlt'
        have hsz := ev_size x
        have hone := evC_one x
        have hs6 : (evC ev0).size = (evC x).size := rfl
        have hz6 := ev0_is
        have hnew : (World.alloc wr (.cells (evC ev0) 41)).heap[(World.heap wr).size]? = some (.cells (evC ev0) 41 (0, 0)) := heap_alloc_new _ _
        obtain ⟨es, hes⟩ : ∃ es, es = evC x := ⟨_, rfl⟩
        have hev : evV x = .agg es := by rw [hes]; rfl
        have HEs := Lib.hid hes
        rw [← hes] at hsz hs6 hone
        clear hes
        go_upto_region 8 with (first
          | (refine load_evm rfl (.tmp 24) rfl g (j * 6) rfl x G1.out ?_; rw [hev])
          | (refine wpList_store_row rfl 41 (.tmp 7) (.tmp 25) rfl (World.heap wr).size _ rfl rfl 41 (evC ev0) hnew hsz hs6 hone ?_))
        rw [HEs.out]
        clear hnew hsz hs6 hone hz6 hev HEs es
        obtain ⟨w4, hw4, he4, hb4⟩ := ev_box wr x
        rw [← hw4]
        obtain ⟨ge, hge⟩ : ∃ g, g = (World.heap wr).size := ⟨_, rfl⟩
        rw [← hge] at he4
        rw [← hge]
        have HGge := Lib.hid hge
        clear hw4 hge
        have HD4 := Lib.hid (HD.out.keep hb4)
        clear HD hb4 G1
        go_wp2_with (refine load_ev (by rfl) (.tmp 7) rfl ge rfl x he4 ?_)
        refine (cd_code x w4).mono ?_
        rintro en w5 ⟨rfl, hb5⟩
        have HD5 := Lib.hid (HD4.out.keep hb5)
        have he5 := he4.keep hb5
        clear HD4 he4 hb5
        obtain ⟨q, hq⟩ : ∃ q, q = cdB x := ⟨_, rfl⟩
        rw [← hq]
        cases q with
        | true =>
          have HD6 := Lib.hid (HD5.out.skip HX.out hq.symm)
          clear HD5 hq he5
          go_wp2_with fail
          go_roundw
          case rel => exact ⟨i, j + 1, dk, rfl, by go_num, hi, by omega, HD6⟩
          case measure => simp [intOf]; omega
        | false =>
          have HD6 := Lib.hid (HD5.out.put HX.out hq.symm)
          have hth : w5.there g (i * 6) (evC x).size := HD5.out.o.there (by rw [evC_size]; omega)
          have hsz := ev_size x
          have hone := evC_one x
          obtain ⟨es, hes⟩ : ∃ es, es = evC x := ⟨_, rfl⟩
          have hev : evV x = .agg es := by rw [hes]; rfl
          rw [← hes] at hsz hone hth HD6
          clear HD5 hq hes
          go_wp2_with (first
            | (refine load_ev (by rfl) (.tmp 7) rfl ge rfl x he5 ?_; rw [hev])
            | (refine wpList_store_mid rfl 41 (.tmp 33) (.tmp 32) rfl g (i * 6) es (by simp [Act.eval]; done) rfl hth hsz hone ?_))
          go_roundw
          case rel => exact ⟨i + 1, j + 1, _, by go_num, by go_num, by omega, by omega, HD6⟩
          case measure => simp [intOf]; omega
      · obtain rfl : j = n := by omega
        have hij := HD.out.k.lt
        have HF := Lib.hid (fun vs => show OwnV (wr.setCells g (i * 6) vs) base (some ⟨g, 0, none⟩) i c (finE f) ∧ w.grownBy (wr.setCells g (i * 6) vs) (some g) from by
          have h := HD.out.o.cutTo (i := i) (by omega) vs
          rw [HD.out.k.lo, HK.out.2, List.take_length] at h
          exact ⟨h, grownBy_cells HD.out.g HD.out.o _ _⟩)
        have HO := HD.out.o
        have hs1 := fun W => slice_fromV W (g := g) (n := j) (c := c) (i := i) (by omega) (by have := HK.out.1; omega)
        have hs2 := fun W => slice_toV W (g := g) (n := j) (c := c) (i := i) (by have := HK.out.1; omega)
        have q0 : (0 : Int) ≤ (i : Int) := by omega
        clear HD
        go_upto_region 12 with (refine wpList_clearV rfl (.tmp 38) rfl HO hij rfl ?_; intro vs)
        go_wp2_with fail
        go_ret
        exact ⟨_, rfl, (HF.out vs).1, (HF.out vs).2⟩
end Go.Proofs.Ytncmfkmgaghklaa
namespace Go.Proofs.Ytncmfkmgaghklaa
open Go.RowKit Ex Go.Maps
set_option maxRecDepth 100000
/-- The span's events so far. -/
def spN (l : List EvT) : NtT := foldN nt0 l
theorem spN_snoc (l : List EvT) (e : EvT) : spN (l ++ [e]) = stepN (spN l) e := foldN_snoc _ _ _
theorem spN_move {l : List EvT} {e : EvT} (hc : isCut e = false) (hs : isSet e = false) : (spN (l ++ [e])).m = (spN l).m ++ [e] ∧ (spN (l ++ [e])).f = (spN l).f := by
  rw [spN_snoc]; unfold stepN; rw [if_neg (by simp [hc]), if_neg (by simp [hs])]; exact ⟨rfl, rfl⟩
theorem spN_set {l : List EvT} {e : EvT} (hc : isCut e = false) (hs : isSet e = true) : (spN (l ++ [e])).m = (spN l).m ∧ (spN (l ++ [e])).f = insE (spN l).f e := by
  rw [spN_snoc]; unfold stepN; rw [if_neg (by simp [hc]), if_pos hs]; exact ⟨rfl, rfl⟩
theorem spN_len (l : List EvT) : (spN l).m.length + (spN l).f.length ≤ l.length := by have := (ntI l).n; unfold spN; omega
/-- What a span's call answers. -/
def SpP (w : World) (base : Nat) (l : List EvT) (en : Ending) (w' : World) : Prop := ∃ A n c, en = .returned (.slice A n c) ∧ OwnV w' base A n c l ∧ Below base w w'
theorem set_last (f : List EvT) (x : EvT) : (f ++ [x]).set f.length { x with d := x.d } = f ++ [x] := by
  rw [List.set_append_right _ _ (Nat.le_refl _), Nat.sub_self]; rfl
set_option linter.unusedSimpArgs false in
set_option maxHeartbeats 0 in
theorem span_code (Al : Option Addr) (nl cl : Nat) (l : List EvT) (w : World) (hr : RdV w.heap.size w Al l) (hnl : nl = l.length)
    (hi : ∀ e ∈ l, EvI e) (hcut : ∀ e ∈ l, isCut e = false) (hn : nl ≤ 70000) : Calls Try.prog 48 #[.slice Al nl cl] w (SpP w w.heap.size ((spN l).m ++ finE (spN l).f)) := by
  have HR := Lib.hid hr
  have HI := Lib.hid hi
  have HCu := Lib.hid hcut
  have HNl := Lib.hid hnl
  have HB0 := Lib.hid hn
  have hnl1 : nl ≤ 70000 := by omega
  have hmm := @run_makeMap Try.prog
  obtain ⟨base, hbase⟩ : ∃ base, base = w.heap.size := ⟨_, rfl⟩
  clear hr hi hcut hnl hn
  go_enter Try.func48, Try.ntmps48
  go_upto_region 4 with fail
  clear hmm
  have HS0 := Lib.hid (show SpI base w.heap.size [] none 0 0 none 0 0 (.map []) (spN (l.take 0)).m (spN (l.take 0)).f w (w.alloc (.map #[] 0)) from by
    have hb : Below w.heap.size w (w.alloc (.map #[] 0)) := (Below.refl _ _).alloc (Nat.le_refl _) _
    exact ⟨by rw [hbase]; exact hb, ownV_nil _ _, ownV_nil _ _, World.ownsMap_made _ _ _ _, MapF.nil, fun j _ h => (by cases h), Nat.le_of_eq hbase, List.Pairwise.nil⟩)
  obtain ⟨gm, hgm⟩ : ∃ g, g = w.heap.size := ⟨_, rfl⟩
  rw [← hgm] at HS0
  rw [← hgm]
  rw [← hbase] at HR
  have HBase := Lib.hid hbase
  clear hgm hbase
  go_loopw [3, 4, 13] (fun o s i wr => ∃ (k n c ns cs : Nat) (A As : Option Addr) (D : DataW Unit), i = .int .i64 ((k : Nat) : Int) ∧ o = .slice A n c ∧ s = .slice As ns cs ∧ k ≤ nl ∧ Hid (SpI base gm [] A n c As ns cs D (spN (l.take k)).m (spN (l.take k)).f w wr)) (fun _ _ i _ => nl - (intOf i).toNat)
  case atStart => exact ⟨0, 0, 0, 0, 0, none, none, .map [], rfl, rfl, rfl, by omega, HS0⟩
  case round =>
    clear HS0
    obtain ⟨k, n, c, ns, cs, A, As, D, rfl, rfl, rfl, hk, HS⟩ := hrel
    have HLn := Lib.hid (show n + ns ≤ k from by
      have h1 := HS.out.ho.len
      have h2 := HS.out.hf.len
      have h3 := spN_len (l.take k)
      rw [List.nil_append] at h1
      rw [List.length_take] at h3
      omega)
    by_cases hlt : k < nl
    · have hlt' : k < l.length := by rw [← HNl.out]; exact hlt
      obtain ⟨b1, o1, ea, hb1, g1⟩ := HR.out.at_ hlt'
      subst ea
      have G1 := Lib.hid (range_below HS.out.b hb1 g1)
      have hxi := HI.out l[k] (List.getElem_mem hlt')
      have hxc := HCu.out l[k] (List.getElem_mem hlt')
      obtain ⟨x, hx⟩ : ∃ x, x = l[k] := ⟨_, rfl⟩
      rw [← hx] at G1 hxi hxc
      have HX := Lib.hid (take_snoc (show l[k]? = some x by rw [hx]; exact List.getElem?_eq_getElem hlt'))
      have HXi := Lib.hid (And.intro hxi hxc)
      have p0 : (0 : Int) ≤ (k : Int) := by omega
      have p1 : (k : Int) < (nl : Int) := by omega
      have HAs := Lib.hid (fun j hj => (HS.out.hf.o.lt j hj).2)
      clear hx g1 hb1 hlt' hxi hxc
      have hsz := ev_size x
      have hone := evC_one x
      have hs6 : (evC ev0).size = (evC x).size := rfl
      have hz6 := ev0_is
      have hnew : (World.alloc wr (.cells (evC ev0) 41)).heap[(World.heap wr).size]? = some (.cells (evC ev0) 41 (0, 0)) := heap_alloc_new _ _
      obtain ⟨es, hes⟩ : ∃ es, es = evC x := ⟨_, rfl⟩
      have hev : evV x = .agg es := by rw [hes]; rfl
      have HEs := Lib.hid hes
      rw [← hes] at hsz hs6 hone
      clear hes
      go_upto_region 6 with (first
        | (refine load_evm rfl (.tmp 15) rfl b1 (o1 + k * 6) rfl x G1.out ?_; rw [hev])
        | (refine wpList_store_row rfl 41 (.tmp 7) (.tmp 16) rfl (World.heap wr).size _ rfl rfl 41 (evC ev0) hnew hsz hs6 hone ?_))
      rw [HEs.out]
      clear hnew hsz hs6 hone hz6 hev HEs es
      obtain ⟨w4, hw4, he4, hb4⟩ := ev_box wr x
      rw [← hw4]
      obtain ⟨ge, hge⟩ : ∃ g, g = (World.heap wr).size := ⟨_, rfl⟩
      rw [← hge] at he4
      rw [← hge]
      have HGge := Lib.hid hge
      clear hw4 hge
      have HS4 := Lib.hid (HS.out.keep hb4)
      clear HS hb4 G1
      go_wp2_with (refine load_ev (by rfl) (.tmp 7) rfl ge rfl x he4 ?_)
      refine (sets_any x w4).mono ?_
      rintro en w5 ⟨rfl, hb5⟩
      have HS5 := Lib.hid (HS4.out.keep hb5)
      have he5 := he4.keep hb5
      rw [show (decide (2 ≤ x.k) && decide (x.k ≤ 4)) = isSet x from rfl]
      clear HS4 he4 hb5
      obtain ⟨q, hq⟩ : ∃ q, q = isSet x := ⟨_, rfl⟩
      rw [← hq]
      cases q with
      | false =>
        have HP := Lib.hid (spN_move (l := l.take k) HXi.out.2 hq.symm)
        clear hq
        have hb6 : Below w5.heap.size w5 (w5.alloc (.cells (evC x) 41)) := (Below.refl _ _).alloc (Nat.le_refl _) _
        have hE6 : EvB (w5.alloc (.cells (evC x) 41)) w5.heap.size x := heap_alloc_new _ _
        have HS6 := Lib.hid (HS5.out.keep hb6)
        have hO6 := HS6.out.ho
        have hR6 := rdV_one hE6
        have hsz6 := HS6.out.size
        have hn1 : n + 1 ≤ 1000000 := by have := HLn.out; have := HB0.out; omega
        clear hb6 hE6 HS5 HAs
        go_wp2_with (first
          | (refine load_ev (by rfl) (.tmp 7) rfl ge rfl x he5 ?_)
          | (refine wpList_buildSliceEv rfl (.tmp 21) rfl x rfl ?_)
          | (at_builtin; refine wpList_appVG rfl (.tmp 20) (.tmp 22) rfl base A n c _ rfl hO6 _ _ 1 1 [x] rfl hR6 rfl hn1 hsz6 ?_; intro A7 c7 w7 ho7 hg7 hat7))
        have HS7 := Lib.hid (show SpI base gm [] A7 (n + 1) c7 As ns cs D (spN (l.take (k + 1))).m (spN (l.take (k + 1))).f w w7 from by
          rw [HX.out, HP.out.1, HP.out.2]
          exact HS6.out.addO (by rw [← List.append_assoc]; exact ho7) hg7 hat7)
        clear ho7 hg7 hat7 hO6 hR6 he5
        go_roundw
        case rel => exact ⟨k + 1, _, _, _, _, _, _, _, by go_num, rfl, rfl, by omega, HS7⟩
        case measure => simp [intOf]; omega
      | true =>
        have HP := Lib.hid (spN_set (l := l.take k) HXi.out.2 hq.symm)
        clear hq
        go_wp2_with (refine load_ev (by rfl) (.tmp 7) rfl ge rfl x he5 ?_)
        refine (key_code x w5).mono ?_
        rintro en w7 ⟨rfl, hb6⟩
        have HS7 := Lib.hid (HS5.out.keep hb6)
        have he7 := he5.keep hb6
        clear HS5 he5 hb6
        obtain ⟨kl, hkey⟩ := HXi.out.1.key
        have HKey := Lib.hid hkey
        have hm7 := HS7.out.hm
        go_upto_region 9 with (at_lookup; refine wpList_lookup_own_ok_int _ rfl _ _ 86 rfl 87 3 .i64 law3 Try.underlying86 Try.underlying3 (zeroI3 _) gm ns _ rfl hm7 _ kl rfl hkey ?_; intro c2 hat hwc)
        obtain ⟨b, hb⟩ : ∃ b, b = has D kl := ⟨_, rfl⟩
        rw [← hb]
        have HB := Lib.hid hb
        have HAt := Lib.hid hat
        clear hb hat hwc hm7
        cases b with
        | true =>
          have hany := HS7.out.mf.h x kl HKey.out
          rw [← HB.out] at hany
          obtain ⟨i, y, hy, hsk, hins⟩ := ins_place HS7.out.ap hany.symm
          have hci := HS7.out.mf.a x kl i y HKey.out hy hsk (.lit (.int .i64 0))
          rw [HAt.out] at hci
          obtain rfl : c2 = (i : Int) := by injection hci with hci; injection hci
          have hil : i < ((spN (l.take k)).f).length := (List.getElem?_eq_some_iff.1 hy).1
          obtain ⟨gf, rfl, hcf, hff, hbf, hlf, hset⟩ := HS7.out.hf.set_ (j := 4) hil (by omega)
          have hfy : (spN (l.take k)).f[i] = y := (List.getElem?_eq_some_iff.1 hy).2
          rw [hfy] at hcf hset
          have hcf : w7.cell? ⟨gf, i * 6 + 4, none⟩ = some (.int .i64 y.d) := hcf
          have HS8 := Lib.hid (show SpI base gm [] A n c (some ⟨gf, 0, none⟩) ns cs D (spN (l.take (k + 1))).m (spN (l.take (k + 1))).f w (w7.setCell ⟨gf, i * 6 + 4, none⟩ (.int .i64 x.d)) from by
            rw [HX.out, HP.out.1, HP.out.2, hins]
            refine HS7.out.setF hbf hy (hset _ _ ?_) ?_
            · rfl
            · rw [← hins]; exact ins_apart HS7.out.ap)
          have cd := he7.cells.2.2.2.2.1
          have g0 : (0 : Int) ≤ (i : Int) := by omega
          have g1 : (i : Int) < (ns : Int) := by have := HS7.out.hf.len; omega
          clear hci HAt HB hany hy hsk hins hil hfy hset HS7 hkey hbf hlf HAs
          go_wp2_with fail
          go_roundw
          case rel => exact ⟨k + 1, _, _, _, _, _, _, _, by go_num, rfl, rfl, by omega, HS8⟩
          case measure => simp [intOf]; omega
        | false =>
          have hany := HS7.out.mf.h x kl HKey.out
          rw [← HB.out] at hany
          have HIns := Lib.hid (ins_none hany.symm)
          clear hany HAt
          go_wp2_with (refine load_ev (by rfl) (.tmp 7) rfl ge rfl x he7 ?_)
          refine (key_code x w7).mono ?_
          rintro en w6 ⟨rfl, hb6⟩
          have HS6 := Lib.hid (HS7.out.keep hb6)
          have he6 := he7.keep hb6
          clear HS7 he7 hb6
          have hm7 := HS6.out.hm
          have hns : ns < maxLen := by have := HLn.out; unfold maxLen; omega
          have hwf : (Lit.int .i64 (ns : Int)).wf = true := wf64 ⟨by omega, by have := HLn.out; omega⟩
          go_upto_region 12 with (at_mapUpdate; refine wpList_mapUpdate_own _ rfl _ _ _ 86 rfl 87 3 law3 Try.underlying86 _ gm ns _ rfl hm7 hns _ _ kl rfl rfl hkey _ [] (plainElem_int Try.underlying3 hwf) ?_; intro w8 hm8 hg8)
          obtain ⟨hbB, hO8, hF8, hsz8⟩ := HS6.out.addM hg8
          have he8 : EvB w8 ge x := (hg8.block ge he6.lt (fun e => by
            injection e with e
            obtain ⟨es, clock, hb, _⟩ := HS6.out.hm
            rw [← e] at hb
            have h7 := he6
            unfold EvB at h7
            rw [h7] at hb; cases hb)).trans he6
          have hb9 : Below w8.heap.size w8 (w8.alloc (.cells (evC x) 41)) := (Below.refl _ _).alloc (Nat.le_refl _) _
          have hE9 : EvB (w8.alloc (.cells (evC x) 41)) w8.heap.size x := heap_alloc_new _ _
          have hF9 := hF8.below hb9
          have HAll := Lib.hid (And.intro (hbB.trans (hb9.mono hsz8)) (And.intro (hO8.below hb9) (And.intro hF9 (hm8.alloc (.cells (evC x) 41)))))
          have HE9 := Lib.hid (he8.keep hb9)
          have hR9 := rdV_one hE9
          have hsz9 : base ≤ (w8.alloc (.cells (evC x) 41)).heap.size := Nat.le_trans hsz8 hb9.size
          have hn1 : ns + 1 ≤ 1000000 := by have := HLn.out; omega
          clear hbB hO8 hF8 hsz8 hb9 hE9 hm8 hg8 hkey he6 hm7 hns hwf
          go_upto_region 13 with (first
            | (refine load_ev (by rfl) (.tmp 7) rfl ge rfl x he8 ?_)
            | (refine wpList_buildSliceEv rfl (.tmp 40) rfl x rfl ?_)
            | (at_builtin; refine wpList_appVG rfl (.tmp 39) (.tmp 41) rfl base As ns cs _ rfl hF9 _ _ 1 1 [x] rfl hR9 rfl hn1 hsz9 ?_; intro A7 c7 w9 ho7 hg7 hat7))
          have HS9 := Lib.hid (show SpI base gm [] A n c A7 (ns + 1) c7 (D.put kl (.lit (.int .i64 (ns : Int)))) (spN (l.take (k + 1))).m ((spN (l.take k)).f ++ [x]) w w9 from by
            rw [HX.out, HP.out.1]
            exact HS6.out.addF HKey.out HB.out.symm (by rw [← HIns.out]; exact ins_apart HS6.out.ap) HAll.out.1 HAll.out.2.1 HAll.out.2.2.1 HAll.out.2.2.2 ho7 hg7 hat7)
          have he9 : EvB w9 ge x := (hg7.block ge HE9.out.lt (fun e => by
            have h1 := HAs.out ge e.symm
            have h2 := HGge.out
            omega)).trans HE9.out
          have hlen := HS6.out.hf.len
          obtain ⟨gf, rfl, hcf, hff, hbf, hlf, hset⟩ := HS9.out.hf.set_ (i := ns) (j := 4) (by rw [List.length_append]; simp; omega) (by omega)
          have hfy : ((spN (l.take k)).f ++ [x])[ns]'(by rw [List.length_append]; simp; omega) = x := by
            rw [List.getElem_append_right (by omega)]; simp
          rw [hfy] at hcf hset
          have hcf : w9.cell? ⟨gf, ns * 6 + 4, none⟩ = some (.int .i64 x.d) := hcf
          have HS10 := Lib.hid (show SpI base gm [] A n c (some ⟨gf, 0, none⟩) (ns + 1) c7 (D.put kl (.lit (.int .i64 (ns : Int)))) (spN (l.take (k + 1))).m (spN (l.take (k + 1))).f w (w9.setCell ⟨gf, ns * 6 + 4, none⟩ (.int .i64 x.d)) from by
            have e1 : ((spN (l.take k)).f ++ [x]).set ns { x with d := x.d } = (spN (l.take (k + 1))).f := by
              rw [hlen, set_last, HX.out, HP.out.2, HIns.out]
            rw [← e1]
            refine HS9.out.setF hbf (y := x) ?_ (hset _ _ rfl) ?_
            · rw [List.getElem?_eq_getElem (by rw [List.length_append]; simp; omega), hfy]
            · rw [hlen, set_last]; exact HS9.out.ap)
          have cd := he9.cells.2.2.2.2.1
          have g0 : (0 : Int) ≤ (ns : Int) := by omega
          have g1 : (ns : Int) < ((ns + 1 : Nat) : Int) := by omega
          clear ho7 hg7 hat7 hF9 hR9 he8 HS6 HAll hlen hfy hset hbf hlf HS9 HAs HE9 hn1 hsz9
          go_wp2_with fail
          go_roundw
          case rel => exact ⟨k + 1, _, _, _, _, _, _, _, by go_num, rfl, rfl, by omega, HS10⟩
          case measure => simp [intOf]; omega
    · obtain rfl : k = nl := by omega
      obtain ⟨m, hm⟩ : ∃ m, m = (spN l).m := ⟨_, rfl⟩
      obtain ⟨f, hf⟩ : ∃ f, f = (spN l).f := ⟨_, rfl⟩
      have HMF := Lib.hid (And.intro hm hf)
      have hfull : l.take k = l := by rw [HNl.out, List.take_length]
      rw [hfull, ← hm, ← hf] at HS
      rw [← hm, ← hf]
      clear hm hf hfull
      have hde := delV_code base As ns cs f wr HS.out.hf (by have := HLn.out; omega)
      go_wp2_with fail
      refine hde.mono ?_
      clear hde
      rintro en w2 ⟨n2, rfl, ho2, hg2⟩
      have hm2 : OwnV w2 base A n c m := HS.out.ho.gone hg2 fun j hj e => HS.out.d j hj e.symm
      have hb2 : Below base w w2 := HS.out.hf.grown HS.out.b HS.out.size hg2
      have hs2 : base ≤ w2.heap.size := Nat.le_trans HS.out.size hg2.size
      have hr2 := ho2.rd
      have hl2 := ho2.len
      have hn2 : n + n2 ≤ 1000000 := by
        have h1 := HS.out.hf.len
        have h2 := fin_len f
        have h3 := HLn.out
        omega
      have HL2 := Lib.hid hl2
      clear HS ho2 hg2 hl2
      go_wp2_with (at_builtin; refine wpList_appVG rfl (.tmp 52) (.tmp 53) rfl base A n c _ rfl hm2 _ _ n2 cs (finE f) rfl hr2 HL2.out hn2 hs2 ?_; intro A7 c7 w7 ho7 hg7 hat7)
      have HF := Lib.hid (show SpP w w.heap.size ((spN l).m ++ finE (spN l).f) (.returned (.slice A7 (n + n2) c7)) w7 from by
        rw [← HBase.out, ← HMF.out.1, ← HMF.out.2]
        exact ⟨_, _, _, rfl, ho7, hm2.grown hb2 hs2 hg7⟩)
      clear ho7 hg7 hat7 hm2 hb2 hr2
      go_ret
      exact HF.out
end Go.Proofs.Ytncmfkmgaghklaa
namespace Go.Proofs.Ytncmfkmgaghklaa
open Go.RowKit Ex
set_option maxRecDepth 100000
/-- A list of events that is answered. -/
def EvsP (w : World) (l : List EvT) (en : Ending) (w' : World) : Prop := ∃ A n c, en = .returned (.slice A n c) ∧ n ≤ c ∧ Evs w'.heap.size w' A n l ∧ Below w.heap.size w w'
end Go.Proofs.Ytncmfkmgaghklaa
namespace Go.Proofs.Ytncmfkmgaghklaa
open Go.RowKit Ex Go.Maps
set_option maxRecDepth 100000
theorem foldN_seg (a : List EvT) {l : List EvT} (h : ∀ e ∈ l, isCut e = false) : foldN ⟨a, [], []⟩ l = ⟨a, (spN l).m, (spN l).f⟩ := by
  induction l using snoc_ind with
  | h0 => rfl
  | h1 l e ih =>
    have ih := ih fun x hx => h x (List.mem_append_left _ hx)
    have hc := h e (by simp)
    rw [foldN_snoc, ih, spN_snoc]
    unfold stepN
    simp only [hc]
    by_cases hs : isSet e = true
    · simp [hs]
    · simp [hs]
/-- The events between the last cut and the place at hand. -/
def segN (l : List EvT) (s k : Nat) : List EvT := (l.drop s).take (k - s)
theorem take_seg {l : List EvT} {s k : Nat} (h : s ≤ k) : l.take k = l.take s ++ segN l s k := by
  unfold segN
  rw [← List.drop_take]
  have := (List.take_append_drop s (l.take k)).symm
  rwa [List.take_take, Nat.min_eq_left h] at this
theorem seg_snoc {l : List EvT} {s k : Nat} {x : EvT} (h : s ≤ k) (hx : l[k]? = some x) : segN l s (k + 1) = segN l s k ++ [x] := by
  unfold segN
  rw [show k + 1 - s = k - s + 1 by omega]
  exact take_snoc (by rw [List.getElem?_drop, show s + (k - s) = k by omega]; exact hx)
theorem seg_self (l : List EvT) (k : Nat) : segN l k k = [] := by unfold segN; simp
theorem seg_len (l : List EvT) (s k : Nat) : (segN l s k).length ≤ k - s := by unfold segN; rw [List.length_take]; omega
theorem seg_mem {l : List EvT} {s k : Nat} {e : EvT} (h : e ∈ segN l s k) : e ∈ l := List.mem_of_mem_drop (List.mem_of_mem_take h)
/-- Net at a place: what came out, where the span began. -/
structure NJ (base : Nat) (l a : List EvT) (A : Option Addr) (n c s k : Nat) (w W : World) : Prop where
  b : Below base w W
  hs : base ≤ W.heap.size
  o : OwnV W base A n c a
  f : foldN nt0 (l.take s) = ⟨a, [], []⟩
  cut : ∀ e ∈ segN l s k, isCut e = false
  le : s ≤ k
section
variable {base : Nat} {l a : List EvT} {A : Option Addr} {n c s k : Nat} {w W W' : World}
theorem NJ.keep (h : NJ base l a A n c s k w W) (hb : Below W.heap.size W W') : NJ base l a A n c s k w W' := ⟨h.b.trans (hb.mono h.hs), Nat.le_trans h.hs hb.size, h.o.below hb, h.f, h.cut, h.le⟩
theorem NJ.fold (h : NJ base l a A n c s k w W) : foldN nt0 (l.take k) = ⟨a, (spN (segN l s k)).m, (spN (segN l s k)).f⟩ := by
  rw [take_seg h.le, foldN_app, h.f, foldN_seg a h.cut]
theorem NJ.len (h : NJ base l a A n c s k w W) : n ≤ s := by
  have h1 := (ntI (l.take s)).n
  rw [h.f, List.length_take] at h1
  simp only [List.length_nil] at h1
  have := h.o.len
  omega
theorem NJ.next (h : NJ base l a A n c s k w W) {x : EvT} (hx : l[k]? = some x) (hc : isCut x = false) : NJ base l a A n c s (k + 1) w W :=
  ⟨h.b, h.hs, h.o, h.f, fun e he => by
    rw [seg_snoc h.le hx] at he
    rcases List.mem_append.1 he with he | he
    · exact h.cut e he
    · obtain rfl : e = x := by simpa using he
      exact hc, Nat.le_succ_of_le h.le⟩
theorem NJ.cutAt (h : NJ base l a A n c s k w W) {x : EvT} (hx : l[k]? = some x) (hc : isCut x = true) {A' : Option Addr} {n' c' : Nat} (hb : Below base w W') (hs : base ≤ W'.heap.size)
    (ho : OwnV W' base A' n' c' (a ++ ((spN (segN l s k)).m ++ finE (spN (segN l s k)).f) ++ [x])) : NJ base l (a ++ ((spN (segN l s k)).m ++ finE (spN (segN l s k)).f) ++ [x]) A' n' c' (k + 1) (k + 1) w W' := by
  refine ⟨hb, hs, ho, ?_, fun e he => ?_, Nat.le_refl _⟩
  · rw [take_snoc hx, foldN_snoc, h.fold]
    unfold stepN
    rw [if_pos hc, List.append_assoc, List.append_assoc, List.append_assoc, List.append_assoc]
  · rw [seg_self] at he; cases he
end
set_option linter.unusedSimpArgs false in
set_option maxHeartbeats 0 in
theorem net_code (A0 : Option Addr) (n0 c0 : Nat) (l : List EvT) (w : World) (hE : Evs w.heap.size w A0 n0 l) (hcap : n0 ≤ c0) (hn : n0 ≤ 70000) : Calls Try.prog 35 #[.slice A0 n0 c0] w (EvsP w (netL l)) := by
  have HE := Lib.hid hE
  have HC := Lib.hid hcap
  have HN := Lib.hid hE.n
  obtain ⟨base, hbase⟩ : ∃ base, base = w.heap.size := ⟨_, rfl⟩
  have HBase := Lib.hid hbase
  have HJ0 := Lib.hid (show NJ base l [] none 0 0 0 0 w w from ⟨Below.refl _ _, Nat.le_of_eq hbase, ownV_nil _ _, rfl, fun e he => (by rw [seg_self] at he; cases he), Nat.le_refl _⟩)
  clear hE hcap hbase
  go_enter Try.func35, Try.ntmps35
  go_upto_region 4 with fail
  go_loopw [3, 4, 9] (fun o s i wr => ∃ (k n c sN : Nat) (A : Option Addr) (a : List EvT), i = .int .i64 ((k : Nat) : Int) ∧ o = .slice A n c ∧ s = .int .i64 ((sN : Nat) : Int) ∧ k ≤ n0 ∧ sN ≤ k ∧ Hid (NJ base l a A n c sN k w wr)) (fun _ _ i _ => n0 - (intOf i).toNat)
  case atStart => exact ⟨0, 0, 0, 0, none, [], rfl, rfl, rfl, by omega, by omega, HJ0⟩
  case round =>
    clear HJ0
    obtain ⟨k, n, c, s, A, a, rfl, rfl, rfl, hk, hsk, HJ⟩ := hrel
    by_cases hlt : k < n0
    · have hlt' : k < l.length := by rw [← HN.out]; exact hlt
      obtain ⟨b1, o1, ea, hb1, g1⟩ := HE.out.r.at_ hlt'
      subst ea
      have G1 := Lib.hid (range_below HJ.out.b (by rw [HBase.out]; exact hb1) g1)
      obtain ⟨x, hx⟩ : ∃ x, x = l[k] := ⟨_, rfl⟩
      rw [← hx] at G1
      have HX := Lib.hid (show l[k]? = some x by rw [hx]; exact List.getElem?_eq_getElem hlt')
      have p0 : (0 : Int) ≤ (k : Int) := by omega
      have p1 : (k : Int) < (n0 : Int) := by omega
      have p2 : (n0 : Int) ≤ 70000 := by omega
      have HAs := Lib.hid (fun j hj => (HJ.out.o.o.lt j hj).2)
      clear hx g1 hb1 hlt'
      have hsz := ev_size x
      have hone := evC_one x
      have hs6 : (evC ev0).size = (evC x).size := rfl
      have hz6 := ev0_is
      have hnew : (World.alloc wr (.cells (evC ev0) 41)).heap[(World.heap wr).size]? = some (.cells (evC ev0) 41 (0, 0)) := heap_alloc_new _ _
      obtain ⟨es, hes⟩ : ∃ es, es = evC x := ⟨_, rfl⟩
      have hev : evV x = .agg es := by rw [hes]; rfl
      have HEs := Lib.hid hes
      rw [← hes] at hsz hs6 hone
      clear hes
      go_upto_region 6 with (first
        | (refine load_evm rfl (.tmp 12) rfl b1 (o1 + k * 6) rfl x G1.out ?_; rw [hev])
        | (refine wpList_store_row rfl 41 (.tmp 6) (.tmp 13) rfl (World.heap wr).size _ rfl rfl 41 (evC ev0) hnew hsz hs6 hone ?_))
      rw [HEs.out]
      clear hnew hsz hs6 hone hz6 hev HEs es
      obtain ⟨w4, hw4, he4, hb4⟩ := ev_box wr x
      rw [← hw4]
      obtain ⟨ge, hge⟩ : ∃ g, g = (World.heap wr).size := ⟨_, rfl⟩
      rw [← hge] at he4
      rw [← hge]
      have HGge := Lib.hid hge
      clear hw4 hge
      have HJ4 := Lib.hid (HJ.out.keep hb4)
      clear HJ hb4 G1
      go_wp2_with (refine load_ev (by rfl) (.tmp 6) rfl ge rfl x he4 ?_)
      refine (parts_code x w4).mono ?_
      rintro en w5 ⟨rfl, hb5⟩
      have HJ5 := Lib.hid (HJ4.out.keep hb5)
      have he5 := he4.keep hb5
      clear HJ4 he4 hb5
      obtain ⟨q, hq⟩ : ∃ q, q = isCut x := ⟨_, rfl⟩
      rw [← hq]
      cases q with
      | false =>
        have HJ6 := Lib.hid (HJ5.out.next HX.out hq.symm)
        clear HJ5 hq he5 HAs
        go_wp2_with fail
        go_roundw
        case rel => exact ⟨k + 1, _, _, _, _, _, by go_num, rfl, rfl, by omega, by omega, HJ6⟩
        case measure => simp [intOf]; omega
      | true =>
        have HCut := Lib.hid hq.symm
        clear hq
        have hlen := HJ5.out.len
        obtain ⟨A6, hrun6, hr6⟩ := cutV (HE.out.r.below (show Below w.heap.size w w5 from by rw [← HBase.out]; exact HJ5.out.b)) HN.out HC.out hsk (Nat.le_of_lt hlt)
        have hr6 := hr6.more (show w.heap.size ≤ w5.heap.size from by rw [← HBase.out]; exact HJ5.out.hs)
        have hsp := span_code A6 (k - s) (c0 - s) (segN l s k) w5 hr6 (by unfold segN; rw [List.length_take, List.length_drop, ← HN.out]; omega) (fun e he => HE.out.i e (seg_mem he)) HJ5.out.cut (by omega)
        unfold SpP at hsp
        obtain ⟨sg, hsg⟩ : ∃ sg, sg = (spN (segN l s k)).m ++ finE (spN (segN l s k)).f := ⟨_, rfl⟩
        have hsgl : sg.length ≤ 70000 := by
          have h1 := spN_len (segN l s k)
          have h2 := fin_len (spN (segN l s k)).f
          have h3 := seg_len l s k
          rw [hsg, List.length_append]
          omega
        rw [← hsg] at hsp
        have HSg := Lib.hid hsg
        have HH6 := Lib.hid hrun6
        have q0 : (0 : Int) ≤ (s : Int) := by omega
        have q1 : (s : Int) ≤ (k : Int) := by omega
        clear hsg hr6
        go_wp2_with fail
        refine hsp.mono ?_
        clear hsp hrun6
        rintro en w6 ⟨A1, n1, c1, rfl, ho1, hb6⟩
        have HJ6 := Lib.hid (HJ5.out.keep hb6)
        have he6 := he5.keep hb6
        have hO6 := HJ6.out.o
        have hR1 := ho1.rd
        have hl1 := ho1.len
        have hs6 := HJ6.out.hs
        have hn1 : n + n1 ≤ 1000000 := by omega
        have HL1 := Lib.hid hl1
        clear HJ5 he5 ho1 hl1
        go_upto_region 8 with (at_builtin; refine wpList_appVG rfl (.tmp 16) (.tmp 21) rfl base A n c _ rfl hO6 _ _ n1 c1 sg rfl hR1 HL1.out hn1 hs6 ?_; intro A7 c7 w7 ho7 hg7 hat7)
        have hge6 := he6.lt
        have hneA : some ge ≠ (Value.slice A n c).ownBlock := fun e => by
          have h1 := HAs.out ge e.symm
          have h2 := HGge.out
          omega
        have he7 : EvB w7 ge x := (hg7.block ge hge6 hneA).trans he6
        have hbw7 : Below base w w7 := hO6.grown HJ6.out.b hs6 hg7
        have hs7 : base ≤ w7.heap.size := Nat.le_trans hs6 hg7.size
        have hb8 : Below w7.heap.size w7 (w7.alloc (.cells (evC x) 41)) := (Below.refl _ _).alloc (Nat.le_refl _) _
        have hE8 : EvB (w7.alloc (.cells (evC x) 41)) w7.heap.size x := heap_alloc_new _ _
        have hO8 := ho7.below hb8
        have HB8 := Lib.hid (hbw7.trans (hb8.mono hs7))
        have hR8 := rdV_one hE8
        have hs8 : base ≤ (w7.alloc (.cells (evC x) 41)).heap.size := Nat.le_trans hs7 hb8.size
        have hn8 : n + n1 + 1 ≤ 1000000 := by have := HL1.out; omega
        clear hO6 hR1 hn1 hs6 he6 hge6 hneA hg7 ho7 hat7 hbw7 hb8 hE8 HAs hs7
        go_upto_region 9 with (first
          | (refine load_ev (by rfl) (.tmp 6) rfl ge rfl x he7 ?_)
          | (refine wpList_buildSliceEv rfl (.tmp 24) rfl x rfl ?_)
          | (at_builtin; refine wpList_appVG rfl (.tmp 23) (.tmp 25) rfl base A7 (n + n1) c7 _ rfl hO8 _ _ 1 1 [x] rfl hR8 rfl hn8 hs8 ?_; intro A9 c9 w9 ho9 hg9 hat9))
        have HJ9 := Lib.hid (show NJ base l (a ++ sg ++ [x]) A9 (n + n1 + 1) c9 (k + 1) (k + 1) w w9 from by
          rw [HSg.out]
          exact HJ6.out.cutAt HX.out HCut.out (hO8.grown HB8.out hs8 hg9) (Nat.le_trans hs8 hg9.size) (by rw [← HSg.out]; exact ho9))
        clear hO8 hR8 hn8 hs8 ho9 hg9 hat9 HJ6 he7 hlen hsgl
        go_wp2_with fail
        go_roundw
        case rel => exact ⟨k + 1, _, _, k + 1, _, _, by go_num, rfl, by go_num, by omega, by omega, HJ9⟩
        case measure => simp [intOf]; omega
    · obtain rfl : k = n0 := by omega
      have hlen := HJ.out.len
      obtain ⟨A6, hrun6, hr6⟩ := cutV_from (HE.out.r.below (show Below w.heap.size w wr from by rw [← HBase.out]; exact HJ.out.b)) HN.out HC.out hsk
      have hseg : segN l s k = l.drop s := by unfold segN; rw [HN.out]; exact List.take_of_length_le (by rw [List.length_drop]; omega)
      rw [← hseg] at hr6
      have hr6 := hr6.more (show w.heap.size ≤ wr.heap.size from by rw [← HBase.out]; exact HJ.out.hs)
      have hsp := span_code A6 (k - s) (c0 - s) (segN l s k) wr hr6 (by unfold segN; rw [List.length_take, List.length_drop, ← HN.out]; omega) (fun e he => HE.out.i e (seg_mem he)) HJ.out.cut (by omega)
      unfold SpP at hsp
      obtain ⟨sg, hsg⟩ : ∃ sg, sg = (spN (segN l s k)).m ++ finE (spN (segN l s k)).f := ⟨_, rfl⟩
      have hsgl : sg.length ≤ 70000 := by
        have h1 := spN_len (segN l s k)
        have h2 := fin_len (spN (segN l s k)).f
        have h3 := seg_len l s k
        rw [hsg, List.length_append]
        omega
      rw [← hsg] at hsp
      have HSg := Lib.hid hsg
      have q0 : (0 : Int) ≤ (s : Int) := by omega
      have q1 : (s : Int) ≤ (k : Int) := by omega
      clear hsg hr6 hseg
      go_wp2_with fail
      refine hsp.mono ?_
      clear hsp hrun6
      rintro en w6 ⟨A1, n1, c1, rfl, ho1, hb6⟩
      have HJ6 := Lib.hid (HJ.out.keep hb6)
      have hO6 := HJ6.out.o
      have hR1 := ho1.rd
      have hl1 := ho1.len
      have hs6 := HJ6.out.hs
      have hn1 : n + n1 ≤ 1000000 := by omega
      have HL1 := Lib.hid hl1
      clear HJ ho1 hl1
      go_wp2_with (at_builtin; refine wpList_appVG rfl (.tmp 30) (.tmp 34) rfl base A n c _ rfl hO6 _ _ n1 c1 sg rfl hR1 HL1.out hn1 hs6 ?_; intro A7 c7 w7 ho7 hg7 hat7)
      have HF := Lib.hid (show EvsP w (netL l) (.returned (.slice A7 (n + n1) c7)) w7 from by
        have e1 : netL l = a ++ sg := by
          have h := HJ6.out.fold
          rw [HN.out, List.take_length] at h
          unfold netL outN
          rw [h, HSg.out, HN.out]
          simp only [List.append_assoc]
        refine ⟨_, _, _, rfl, ho7.cap.1, ?_, by rw [← HBase.out]; exact hO6.grown HJ6.out.b hs6 hg7⟩
        refine ho7.evs ?_ |> (fun h => by rw [e1]; exact h)
        rw [← e1]; exact net_i HE.out.i)
      clear ho7 hg7 hat7 hO6 hR1
      go_ret
      exact HF.out
end Go.Proofs.Ytncmfkmgaghklaa
namespace Go.Proofs.Ytncmfkmgaghklaa
open Go.RowKit Ex
set_option maxRecDepth 100000
theorem cutV_fromA {n c : Nat} {A : Option Addr} {l : List EvT} (hn : n = l.length) (hc : n ≤ c) {i : Nat} (hi : i ≤ n) :
    ∃ A', (∀ W, (Instr.slice 31 (.slice A n c) (some (.int .i64 (i : Int))) none none).run Try.prog W = .ok (.slice A' (n - i) (c - i)) W) ∧ ∀ (B : Nat) (w : World), RdV B w A l → RdV B w A' (l.drop i) := by
  refine ⟨if c = i then A else A.map (·.add (i * 6)), fun W => ?_, fun B w h => ?_⟩
  · rw [run_slice_l W 31 A n c ev_elem .i64 (i : Int) (by omega) (by omega), ev_elem_size]
    simp only [Result.andThen_ok, sliced, Int.toNat_natCast]
  · split
    · have e : l.drop i = [] := List.drop_eq_nil_of_le (by omega)
      rw [e]; exact RdV.none_
    · exact h.cut i
theorem ck_elem : Try.prog.underlying 62 = some (.slice (Try.prog.elem 62)) := by kernel_rfl
theorem ck_elem_size (W : World) : (sizeOf (Try.prog.elem 62)).run Try.prog W = .ok 2 W := by kernel_rfl
/-- What cut answers. -/
def CutP (F : Nat → Prop) (w : World) (p : Nat) (j : JT) (c : Int) (en : Ending) (w' : World) : Prop :=
  (findJ j c = none ∧ en = .returned (.tuple #[.slice none 0 0, errV 16]) ∧ Below w.heap.size w w') ∨
  ∃ a Ae Am k A n cc, findJ j c = some a ∧ en = .returned (.tuple #[.slice A n cc, errV 0]) ∧ n ≤ cc ∧ Evs w'.heap.size w' A n (j.ev.drop a) ∧ JX w' p Ae a a Am k k ⟨j.ev.take a, cutM j.ms c, j.last⟩ ∧ (∀ q, JF p Ae Am q → F q) ∧ Foot F w w'
theorem nm_at {w : World} {p ne ce nm cm i : Nat} {Ae Am : Option Addr} {j : JT} {m : Int × Nat} (h : JX w p Ae ne ce Am nm cm j) (hi : j.ms[i]? = some m) : i + 1 ≤ nm := by
  have := (List.getElem?_eq_some_iff.1 hi).1
  rw [h.nm_]; omega
/-- Events and checkpoints cut. -/
theorem JX.cutJ {w : World} {p ne ce nm cm i a : Nat} {Ae Am : Option Addr} {j : JT} {c : Int} (h : JX w p Ae ne ce Am nm cm j) (ho : JOk j) (hi : j.ms[i]? = some (c, a)) (ha : a ≤ ne) :
    JX ((w.setCell ⟨p, 0, none⟩ (.slice Ae a a)).setCell ⟨p, 1, none⟩ (.slice Am (i + 1) (i + 1))) p Ae a a Am (i + 1) (i + 1) ⟨j.ev.take a, cutM j.ms c, j.last⟩ := by
  have h1 := h.setEv (w' := w) rfl (fun _ _ => rfl) (A' := Ae) (n' := a) (c' := a) (l' := j.ev.take a) (by rw [← flatV_take]; exact h.ev.cut ha) (fun e he => h.ei e (List.mem_of_mem_take he))
  have hm1 := (h1.ms.cut (nm_at h hi))
  rw [flatK_take] at hm1
  have h2 := h1.setMs (w' := w.setCell ⟨p, 0, none⟩ (.slice Ae a a)) rfl (fun _ _ => rfl) hm1 (by rw [List.length_take]; have := h.mb; simp only; omega)
  rw [(find_some ho.r hi).2]
  exact h2
set_option linter.unusedSimpArgs false in
set_option maxHeartbeats 0 in
theorem cut_codeJ (p : Nat) (j : JT) (F : Nat → Prop) (c : Int) (w : World) (h : JR w p j F) (ho : JOk j) :
    Calls Try.prog 34 #[ptrV p, .int .i64 c] w (CutP F w p j c) := by
  obtain ⟨Ae, ne, ce, Am, nm, cm, hx, hF⟩ := h
  have hf := find_code hx ho c
  have HX := Lib.hid hx
  have HF := Lib.hid hF
  have HO := Lib.hid ho
  clear hx ho hF
  go_enter Try.func34, Try.ntmps34
  go_wp2_with fail
  refine hf.mono ?_
  rintro en w2 ⟨i, b, rfl, hFi, hb2⟩
  clear hf
  rcases hFi with ⟨rfl, a, ha⟩ | ⟨rfl, hno⟩
  case inr =>
    have HN := Lib.hid (show findJ j c = none from find_none hno)
    clear hno
    go_wp2_with fail
    go_ret2
    exact .inl ⟨HN.out, by rw [errV_err (by decide)]; rfl, hb2⟩
  case inl =>
    have HF1 := Lib.hid (show findJ j c = some a from (find_some HO.out.r ha).1)
    have hal := find_le HO.out HF1.out
    have hx2 := HX.out.keep hb2
    obtain ⟨g, hA, hg, ca, cb, _⟩ := hx2.mk_at ha
    simp only at cb
    have hi := nm_at hx2 ha
    have p0 : (0 : Int) ≤ (i : Int) := by omega
    have p1 : (i : Int) < (nm : Int) := by omega
    have hnm : nm ≤ 2000000 := by rw [hx2.nm_]; exact hx2.mb
    have han : a ≤ ne := by rw [hx2.ne_]; exact hal
    obtain ⟨A', hsl, hRd⟩ := cutV_fromA (A := Ae) hx2.ne_ hx2.ev.le han
    have hce := hx2.ev.le
    have hcm := hx2.ms.le
    have hs1 := fun W => run_cutX (P := Try.prog) 31 hx2.ev.at0 ne ce a (by omega) ev_elem 6 ev_elem_size W
    have hs2 := fun W => run_cutX (P := Try.prog) 62 hx2.ms.at0 nm cm (i + 1) (by omega) ck_elem 2 ck_elem_size W
    have hxc := hx2.cutJ HO.out ha han
    have HXC := Lib.hid hxc
    have hr2 : OwnX 41 6 ((w2.setCell ⟨p, 0, none⟩ (.slice Ae a a)).setCell ⟨p, 1, none⟩ (.slice Am (i + 1) (i + 1))) Ae ne ce (flatV j.ev) :=
      hx2.ev.stay fun k hk => (set_other _ p 1 k _ (hx2.pe hk).symm).trans (set_other _ p 0 k _ (hx2.pe hk).symm)
    have HE := Lib.hid (show Evs ((w2.setCell ⟨p, 0, none⟩ (.slice Ae a a)).setCell ⟨p, 1, none⟩ (.slice Am (i + 1) (i + 1))).heap.size ((w2.setCell ⟨p, 0, none⟩ (.slice Ae a a)).setCell ⟨p, 1, none⟩ (.slice Am (i + 1) (i + 1))) A' (ne - a) (j.ev.drop a) from
      ⟨by rw [List.length_drop, ← hx2.ne_], hRd _ _ (ownX_rd hr2), fun e he => HX.out.ei e (List.mem_of_mem_drop he)⟩)
    have HT := Lib.hid ((((Foot.of (F := F) hb2).set_ ((HF.out p).2 (.inl rfl)) 0 (.slice Ae a a))).set_ ((HF.out p).2 (.inl rfl)) 1 (.slice Am (i + 1) (i + 1)))
    have HC := Lib.hid (show ne - a ≤ ce - a from by omega)
    have c0 := hx2.c0
    have c1 := hx2.c1
    have f0 := hx2.fz 0
    have f1 := hx2.fz 1
    have HAm := Lib.hid hA
    obtain ⟨i1, hi1⟩ : ∃ i1, i1 = i + 1 := ⟨_, rfl⟩
    have ei : (i : Int) + 1 = (i1 : Int) := by omega
    rw [← hi1] at hs2 HXC HE HT
    subst hA
    clear hxc hr2 hRd hx2 hal ha hb2 hi1
    unfold ptrV
    go_wp2_with fail
    go_ret2
    exact .inr ⟨a, Ae, some ⟨g, 0, none⟩, i1, A', ne - a, ce - a, HF1.out, by rw [errV_nil]; rfl, HC.out, HE.out, HXC.out, fun q hq => (HF.out q).2 hq, HT.out⟩
theorem cut_dead {j : JT} {c : Int} (h : findJ j c = none) : deadJ j c = 16 ∧ spanJ j c = [] ∧ backJ j c = j ∧ foldJ j c = j := by
  have hl : liveJ j c = false := by unfold liveJ; rw [h]; rfl
  exact ⟨by unfold deadJ; rw [hl]; rfl, by unfold spanJ; rw [h], by unfold backJ; rw [h], by unfold foldJ; rw [h]⟩
theorem cut_live {j : JT} {c : Int} {a : Nat} (h : findJ j c = some a) : deadJ j c = 0 ∧ spanJ j c = j.ev.drop a ∧ backJ j c = ⟨j.ev.take a, cutM j.ms c, j.last⟩ ∧ foldJ j c = ⟨j.ev.take a ++ netL (j.ev.drop a), cutM j.ms c, j.last⟩ := by
  have hl : liveJ j c = true := by unfold liveJ; rw [h]; rfl
  exact ⟨by unfold deadJ; rw [hl]; rfl, by unfold spanJ; rw [h], by unfold backJ; rw [h], by unfold foldJ; rw [h]⟩
theorem jr_same {F : Nat → Prop} {w w' : World} {p : Nat} {j : JT} (h : JR w p j F) (hb : Below w.heap.size w w') : JP jnT w p F j w' := by
  obtain ⟨Ae, ne, ce, Am, nm, cm, hx, hF⟩ := h
  exact (hx.keep hb).fin (fun k hk => .inl ((hF k).2 hk)) (Foot.of hb)
theorem cut_nilJ (c : Int) (w : World) : Calls Try.prog 34 #[.pointer none, .int .i64 c] w fun en w' => en = .returned (.tuple #[.slice none 0 0, errV 16]) ∧ w' = w := by
  rw [errV_err (by decide)]
  go_enter Try.func34, Try.ntmps34
  go_wp2_with fail
  refine (find_nil c w).mono ?_
  rintro en w2 ⟨rfl, rfl⟩
  go_wp2_with fail
  go_ret2
  exact ⟨rfl, rfl⟩
set_option linter.unusedSimpArgs false in
set_option maxHeartbeats 0 in
theorem back_codeJ (p : Nat) (j : JT) (F : Nat → Prop) (c : Int) (w : World) (h : JR w p j F) (ho : JOk j) :
    Calls Try.prog 18 #[ptrV p, .int .i64 c] w fun en w' => (∃ A n cc, en = .returned (.tuple #[.slice A n cc, errV (deadJ j c)]) ∧ n ≤ cc ∧ Evs w'.heap.size w' A n (invL (spanJ j c))) ∧ JP jnT w p F (backJ j c) w' := by
  have hf := cut_codeJ p j F c w h ho
  have HH := Lib.hid h
  have HN := Lib.hid ho.n
  clear h ho
  go_enter Try.func18, Try.ntmps18
  go_wp2_with fail
  refine hf.mono ?_
  clear hf
  rintro en w2 (⟨hfi, rfl, hb2⟩ | ⟨a, Ae, Am, k, A, n, cc, hfi, rfl, hnc, hE, hx, hq, hft⟩)
  · have HD := Lib.hid (cut_dead hfi)
    have HJ := Lib.hid (jr_same HH.out hb2)
    rw [errV_err (show (16 : Int) ≠ 0 by decide)]
    clear hfi hb2
    go_wp2_with fail
    go_ret2
    exact ⟨⟨none, 0, 0, by rw [HD.out.1, errV_err (by decide)]; rfl, Nat.le_refl _, by rw [HD.out.2.1]; exact Evs.nil⟩, by rw [HD.out.2.2.1]; exact HJ.out⟩
  · have HD := Lib.hid (cut_live hfi)
    have hin := invL_code A n cc _ w2 hE (by rw [hE.n, List.length_drop]; have := HN.out; omega)
    have HX := Lib.hid hx
    have HT := Lib.hid hft
    have HQ := Lib.hid hq
    rw [errV_nil]
    clear hfi hE hx hft hq hnc
    go_wp2_with fail
    refine hin.mono ?_
    clear hin
    rintro en w3 ⟨A3, c3, rfl, hc3, hE3, hb3⟩
    have HE3 := Lib.hid hE3
    have HC3 := Lib.hid hc3
    have HJ := Lib.hid (show JP jnT w p F (backJ j c) w3 from by
      rw [HD.out.2.2.1]
      exact (HX.out.keep hb3).fin (fun q hq => .inl (HQ.out q hq)) (HT.out.more hb3))
    clear hE3 hc3 hb3
    go_wp2_with fail
    go_ret2
    exact ⟨⟨A3, n, c3, by rw [HD.out.1, errV_nil]; rfl, HC3.out, by rw [HD.out.2.1]; exact HE3.out⟩, HJ.out⟩
theorem back_nilJ (c : Int) (w : World) : Calls Try.prog 18 #[.pointer none, .int .i64 c] w fun en w' => ∃ A cc, en = .returned (.tuple #[.slice A 0 cc, errV 16]) ∧ Below w.heap.size w w' := by
  rw [errV_err (by decide)]
  go_enter Try.func18, Try.ntmps18
  go_wp2_with fail
  refine (cut_nilJ c w).mono ?_
  rintro en w2 ⟨rfl, rfl⟩
  rw [errV_err (show (16 : Int) ≠ 0 by decide)]
  go_wp2_with fail
  go_ret2
  exact ⟨none, 0, rfl, Below.refl _ _⟩
set_option linter.unusedSimpArgs false in
set_option maxHeartbeats 0 in
theorem fold_codeJ (p : Nat) (j : JT) (F : Nat → Prop) (c : Int) (w : World) (h : JR w p j F) (ho : JOk j) :
    Calls Try.prog 17 #[ptrV p, .int .i64 c] w fun en w' => en = .returned (errV (deadJ j c)) ∧ JP jnT w p F (foldJ j c) w' := by
  have hf := cut_codeJ p j F c w h ho
  have HH := Lib.hid h
  have HN := Lib.hid ho.n
  clear h ho
  go_enter Try.func17, Try.ntmps17
  go_wp2_with fail
  refine hf.mono ?_
  clear hf
  rintro en w2 (⟨hfi, rfl, hb2⟩ | ⟨a, Ae, Am, k, A, n, cc, hfi, rfl, hnc, hE, hx, hq, hft⟩)
  · have HD := Lib.hid (cut_dead hfi)
    have HJ := Lib.hid (jr_same HH.out hb2)
    rw [errV_err (show (16 : Int) ≠ 0 by decide)]
    clear hfi hb2
    go_wp2_with fail
    go_ret
    exact ⟨by rw [HD.out.1, errV_err (by decide)]; rfl, by rw [HD.out.2.2.2]; exact HJ.out⟩
  · have HD := Lib.hid (cut_live hfi)
    have HQ := Lib.hid hq
    have HNC := Lib.hid hnc
    have HAN := Lib.hid (show a ≤ 65536 from by have h1 := hx.ne_; simp only [List.length_take] at h1; have := HN.out; omega)
    have HL := Lib.hid (show (netL (j.ev.drop a)).length ≤ 65536 from by have := net_len (j.ev.drop a); rw [List.length_drop] at this; have := HN.out; omega)
    have HNN := Lib.hid (show n ≤ 70000 from by rw [hE.n, List.length_drop]; have := HN.out; omega)
    rw [errV_nil]
    clear hfi hq hnc
    unfold ptrV
    go_upto_region 4 with fail
    rename_i K0 hK0
    have hxd : JX w2.drew p Ae a a Am k k ⟨j.ev.take a, cutM j.ms c, j.last⟩ := hx.stay fun _ _ => rfl
    have hEd : Evs w2.drew.heap.size w2.drew A n (j.ev.drop a) := hE.below (Below.refl _ _).drew
    have hfd : Foot F w w2.drew := ⟨hft.os, hft.tape, hft.output, hft.size, hft.block⟩
    refine wp_region_held_drew (S := fun _ => True) (by kernel_rfl) trivial (fun hHeld => ?_)
    obtain ⟨w1, hw1⟩ : ∃ w1, w1 = w2.drew := ⟨_, rfl⟩
    rw [← hw1] at hxd hEd hfd
    rw [← hw1]
    clear hw1 hx hE hft
    refine wpAnyH_take (i := 0) (v := ?_) rfl (by kernel_rfl) (by kernel_rfl) (by kernel_rfl) (fun _ _ _ h => h) (Or.inl ⟨by rfl, ?_⟩) hHeld ?_
    rotate_left
    · (intro w hSw; go_simp; (try with_reducible rfl))
    simp only [Act.put, List.getElem_toArray, List.getElem_cons_zero, List.getElem_cons_succ, List.setIfInBounds_toArray, List.set_cons_zero, List.set_cons_succ]
    refine wpAnyH_take (i := 1) (v := ?_) rfl (by kernel_rfl) (by kernel_rfl) (by kernel_rfl) (fun _ _ _ h => h) (Or.inl ⟨by rfl, ?_⟩) hHeld ?_
    rotate_left
    · (intro w hSw; go_simp; (try with_reducible rfl))
    simp only [Act.put, List.getElem_toArray, List.getElem_cons_zero, List.getElem_cons_succ, List.setIfInBounds_toArray, List.set_cons_zero, List.set_cons_succ]
    refine wpAnyH_take (i := 2) (v := ?_) rfl (by kernel_rfl) (by kernel_rfl) (by kernel_rfl) (fun _ _ _ h => h) (Or.inl ⟨by rfl, ?_⟩) hHeld ?_
    rotate_left
    · (intro w hSw; go_simp; (try with_reducible rfl))
    simp only [Act.put, List.getElem_toArray, List.getElem_cons_zero, List.getElem_cons_succ, List.setIfInBounds_toArray, List.set_cons_zero, List.set_cons_succ]
    refine wpAnyH_take (i := 3) (v := ?_) rfl (by kernel_rfl) (by kernel_rfl) (by kernel_rfl) (fun _ _ _ h => h) (Or.inl ⟨by rfl, ?_⟩) hHeld ?_
    rotate_left
    · (intro w hSw; go_simp; (try with_reducible rfl))
    simp only [Act.put, List.getElem_toArray, List.getElem_cons_zero, List.getElem_cons_succ, List.setIfInBounds_toArray, List.set_cons_zero, List.set_cons_succ]
    refine wpAnyH_take (i := 5) (v := ?_) rfl (by kernel_rfl) (by kernel_rfl) (by kernel_rfl) (fun _ _ _ h => h) (Or.inl ⟨by rfl, ?_⟩) hHeld ?_
    rotate_left
    · (intro w hSw; go_simp; (try with_reducible rfl))
    simp only [Act.put, List.getElem_toArray, List.getElem_cons_zero, List.getElem_cons_succ, List.setIfInBounds_toArray, List.set_cons_zero, List.set_cons_succ]
    have c0 := hxd.c0
    have hnt := net_code A n cc _ w1 hEd HNC.out HNN.out
    clear hEd
    refine wpAnyH_ready (rs := [4, 6]) (by kernel_rfl) (by simp) ?_
    refine AllReadyH.cons rfl (fun K hK => ?_) (AllReadyH.cons rfl (fun K hK => ?_) AllReadyH.nil)
    all_goals (try simp only [List.getElem_toArray, List.getElem_cons_zero, List.getElem_cons_succ])
    · go_simp
      refine hK.out _ _ trivial (fun _ => ?_)
      clear hK K
      try simp only [Act.put, List.setIfInBounds_toArray, List.set_cons_zero, List.set_cons_succ]
      refine wpAnyH_ready (rs := [6]) (by kernel_rfl) (by simp) ?_
      refine AllReadyH.cons rfl (fun K hK => ?_) AllReadyH.nil
      try simp only [List.getElem_toArray, List.getElem_cons_zero, List.getElem_cons_succ]
      go_simp
      refine hnt.mono ?_
      rintro en w3 ⟨A3, n3, c3, rfl, hc3, hE3, hb3⟩
      have hx3 := hxd.keep hb3
      have hf3 := hfd.more hb3
      have HL3 := Lib.hid (show n3 ≤ 65536 from by rw [hE3.n]; exact HL.out)
      clear hnt hb3 hxd hfd c0
      try simp only [Act.put, List.setIfInBounds_toArray, List.set_cons_zero, List.set_cons_succ]
      refine hK.out _ _ trivial (fun _ => ?_)
      clear hK K
      try simp only [Act.put, List.setIfInBounds_toArray, List.set_cons_zero, List.set_cons_succ]
      refine wpAnyH_ready (rs := [7]) (by kernel_rfl) (by simp) ?_
      refine AllReadyH.cons rfl (fun K hK => ?_) AllReadyH.nil
      try simp only [List.getElem_toArray, List.getElem_cons_zero, List.getElem_cons_succ]
      refine wp_appX (.tmp 20) (.tmp 22) 31 41 6 Ae a a n3 _ _ (appEv _ (hx3).ev c3 (hE3).r (hE3).n (by have := HL3.out; have := HAN.out; omega)) rfl rfl rfl ?_
      intro A4 c4 w4 ho4 hg4 hb4
      have hp4 : w4.heap[p]? = w3.heap[p]? := hg4.block p (hx3).lt fun e => (hx3).pe e.symm rfl
      have hm4 : ∀ q, (Value.slice Am k k).ownBlock = some q → w4.heap[q]? = w3.heap[q]? := fun q hq => hg4.block q ((hx3).ms.lt hq) fun e => (hx3).em e.symm hq
      have hx5 := (hx3).setEv hp4 hm4 ho4 (fun e he => by
        rcases List.mem_append.1 he with he | he
        · exact (hx3).ei e he
        · exact (hE3).i e he)
      have hf5 := ((hf3).grown hg4 (fun q hq => .inl (HQ.out q (.inr (.inl (by rw [← own_ob Ae a a]; exact hq)))))).set_ (HQ.out p (.inl rfl)) 0 (.slice A4 (a + n3) c4)
      have HJ := Lib.hid (show JP jnT w p F (foldJ j c) (w4.setCell ⟨p, 0, none⟩ (.slice A4 (a + n3) c4)) from by
        rw [HD.out.2.2.2]
        refine hx5.fin (fun q hq => ?_) hf5
        rcases hq with rfl | hq | hq
        · exact .inl (HQ.out q (.inl rfl))
        · rw [← own_ob A4 (a + n3) c4] at hq
          rcases hb4 q hq with hq | hq
          · exact .inl (HQ.out q (.inr (.inl (by rw [← own_ob Ae a a]; exact hq))))
          · exact .inr (Nat.le_trans (hf3).size hq)
        · exact .inl (HQ.out q (.inr (.inr hq))))
      have q4 : w4.cell? ⟨p, 0, none⟩ = some (.slice Ae a a) := (World.cell?_of_block (a := ⟨p, 0, none⟩) hp4).trans (hx3).c0
      have q5 : w4.frozen? ⟨p, 0, none⟩ = false := (World.frozen?_of_block (a := ⟨p, 0, none⟩) hp4).trans ((hx3).fz 0)
      clear hx5 hf5 ho4 hg4 hb4 hp4 hm4
      refine hK.out _ _ trivial (fun _ => ?_)
      clear hK K
      try simp only [Act.put, List.setIfInBounds_toArray, List.set_cons_zero, List.set_cons_succ]
      refine wpAnyH_take (i := 8) (v := ?_) rfl (by kernel_rfl) (by kernel_rfl) (by kernel_rfl) (fun _ _ _ h => h) (Or.inl ⟨by rfl, ?_⟩) hHeld ?_
      rotate_left
      · (intro w hSw; go_simp; (try with_reducible rfl))
      simp only [Act.put, List.getElem_toArray, List.getElem_cons_zero, List.getElem_cons_succ, List.setIfInBounds_toArray, List.set_cons_zero, List.set_cons_succ]
      refine wpAnyH_take (i := 9) (v := ?_) rfl (by kernel_rfl) (by kernel_rfl) (by kernel_rfl) (fun _ _ _ h => h) (Or.inl ⟨by rfl, ?_⟩) hHeld ?_
      rotate_left
      · (intro w hSw; go_simp; (try with_reducible rfl))
      simp only [Act.put, List.getElem_toArray, List.getElem_cons_zero, List.getElem_cons_succ, List.setIfInBounds_toArray, List.set_cons_zero, List.set_cons_succ]
      refine wpAnyH_ready (rs := [10]) (by kernel_rfl) (by simp) ?_
      refine AllReadyH.cons rfl (fun K hK => ?_) AllReadyH.nil
      try simp only [List.getElem_toArray, List.getElem_cons_zero, List.getElem_cons_succ]
      go_simp
      refine hK.out _ _ trivial (fun _ => ?_)
      clear hK K
      try simp only [Act.put, List.setIfInBounds_toArray, List.set_cons_zero, List.set_cons_succ]
      refine wpAnyH_done (by kernel_rfl) ?_ _
      refine hK0 _ _ ?_
      clear hK0 K0 hHeld q4 q5
      go_wp2_with fail
      go_ret
      exact ⟨by rw [HD.out.1, errV_nil]; rfl, HJ.out⟩
    · go_simp
      refine hnt.mono ?_
      rintro en w3 ⟨A3, n3, c3, rfl, hc3, hE3, hb3⟩
      have hx3 := hxd.keep hb3
      have hf3 := hfd.more hb3
      have HL3 := Lib.hid (show n3 ≤ 65536 from by rw [hE3.n]; exact HL.out)
      clear hnt hb3 hxd hfd c0
      try simp only [Act.put, List.setIfInBounds_toArray, List.set_cons_zero, List.set_cons_succ]
      refine hK.out _ _ trivial (fun _ => ?_)
      clear hK K
      try simp only [Act.put, List.setIfInBounds_toArray, List.set_cons_zero, List.set_cons_succ]
      have c0 := hx3.c0
      refine wpAnyH_ready (rs := [4]) (by kernel_rfl) (by simp) ?_
      refine AllReadyH.cons rfl (fun K hK => ?_) AllReadyH.nil
      try simp only [List.getElem_toArray, List.getElem_cons_zero, List.getElem_cons_succ]
      go_simp
      refine hK.out _ _ trivial (fun _ => ?_)
      clear hK K
      try simp only [Act.put, List.setIfInBounds_toArray, List.set_cons_zero, List.set_cons_succ]
      clear c0
      refine wpAnyH_ready (rs := [7]) (by kernel_rfl) (by simp) ?_
      refine AllReadyH.cons rfl (fun K hK => ?_) AllReadyH.nil
      try simp only [List.getElem_toArray, List.getElem_cons_zero, List.getElem_cons_succ]
      refine wp_appX (.tmp 20) (.tmp 22) 31 41 6 Ae a a n3 _ _ (appEv _ (hx3).ev c3 (hE3).r (hE3).n (by have := HL3.out; have := HAN.out; omega)) rfl rfl rfl ?_
      intro A4 c4 w4 ho4 hg4 hb4
      have hp4 : w4.heap[p]? = w3.heap[p]? := hg4.block p (hx3).lt fun e => (hx3).pe e.symm rfl
      have hm4 : ∀ q, (Value.slice Am k k).ownBlock = some q → w4.heap[q]? = w3.heap[q]? := fun q hq => hg4.block q ((hx3).ms.lt hq) fun e => (hx3).em e.symm hq
      have hx5 := (hx3).setEv hp4 hm4 ho4 (fun e he => by
        rcases List.mem_append.1 he with he | he
        · exact (hx3).ei e he
        · exact (hE3).i e he)
      have hf5 := ((hf3).grown hg4 (fun q hq => .inl (HQ.out q (.inr (.inl (by rw [← own_ob Ae a a]; exact hq)))))).set_ (HQ.out p (.inl rfl)) 0 (.slice A4 (a + n3) c4)
      have HJ := Lib.hid (show JP jnT w p F (foldJ j c) (w4.setCell ⟨p, 0, none⟩ (.slice A4 (a + n3) c4)) from by
        rw [HD.out.2.2.2]
        refine hx5.fin (fun q hq => ?_) hf5
        rcases hq with rfl | hq | hq
        · exact .inl (HQ.out q (.inl rfl))
        · rw [← own_ob A4 (a + n3) c4] at hq
          rcases hb4 q hq with hq | hq
          · exact .inl (HQ.out q (.inr (.inl (by rw [← own_ob Ae a a]; exact hq))))
          · exact .inr (Nat.le_trans (hf3).size hq)
        · exact .inl (HQ.out q (.inr (.inr hq))))
      have q4 : w4.cell? ⟨p, 0, none⟩ = some (.slice Ae a a) := (World.cell?_of_block (a := ⟨p, 0, none⟩) hp4).trans (hx3).c0
      have q5 : w4.frozen? ⟨p, 0, none⟩ = false := (World.frozen?_of_block (a := ⟨p, 0, none⟩) hp4).trans ((hx3).fz 0)
      clear hx5 hf5 ho4 hg4 hb4 hp4 hm4
      refine hK.out _ _ trivial (fun _ => ?_)
      clear hK K
      try simp only [Act.put, List.setIfInBounds_toArray, List.set_cons_zero, List.set_cons_succ]
      refine wpAnyH_take (i := 8) (v := ?_) rfl (by kernel_rfl) (by kernel_rfl) (by kernel_rfl) (fun _ _ _ h => h) (Or.inl ⟨by rfl, ?_⟩) hHeld ?_
      rotate_left
      · (intro w hSw; go_simp; (try with_reducible rfl))
      simp only [Act.put, List.getElem_toArray, List.getElem_cons_zero, List.getElem_cons_succ, List.setIfInBounds_toArray, List.set_cons_zero, List.set_cons_succ]
      refine wpAnyH_take (i := 9) (v := ?_) rfl (by kernel_rfl) (by kernel_rfl) (by kernel_rfl) (fun _ _ _ h => h) (Or.inl ⟨by rfl, ?_⟩) hHeld ?_
      rotate_left
      · (intro w hSw; go_simp; (try with_reducible rfl))
      simp only [Act.put, List.getElem_toArray, List.getElem_cons_zero, List.getElem_cons_succ, List.setIfInBounds_toArray, List.set_cons_zero, List.set_cons_succ]
      refine wpAnyH_ready (rs := [10]) (by kernel_rfl) (by simp) ?_
      refine AllReadyH.cons rfl (fun K hK => ?_) AllReadyH.nil
      try simp only [List.getElem_toArray, List.getElem_cons_zero, List.getElem_cons_succ]
      go_simp
      refine hK.out _ _ trivial (fun _ => ?_)
      clear hK K
      try simp only [Act.put, List.setIfInBounds_toArray, List.set_cons_zero, List.set_cons_succ]
      refine wpAnyH_done (by kernel_rfl) ?_ _
      refine hK0 _ _ ?_
      clear hK0 K0 hHeld q4 q5
      go_wp2_with fail
      go_ret
      exact ⟨by rw [HD.out.1, errV_nil]; rfl, HJ.out⟩
theorem fold_nilJ (c : Int) (w : World) : Calls Try.prog 17 #[.pointer none, .int .i64 c] w fun en w' => en = .returned (errV 16) ∧ Below w.heap.size w w' := by
  rw [errV_err (by decide)]
  go_enter Try.func17, Try.ntmps17
  go_wp2_with fail
  refine (cut_nilJ c w).mono ?_
  rintro en w2 ⟨rfl, rfl⟩
  rw [errV_err (show (16 : Int) ≠ 0 by decide)]
  go_wp2_with fail
  go_ret
  exact ⟨rfl, Below.refl _ _⟩
end Go.Proofs.Ytncmfkmgaghklaa
