/- Layer 6: effects that a call makes: a list of effects that is appended to, each reading in blocks of its own. -/
import Derived.Test.YtmdfgkfimlmmnaaDoorTreeSpoil
import Derived.Test.YtmdfgkfimlmmnaaDoorWireMath
import Derived.Maps.AppendAt
namespace Go.Proofs.YtmdfgkfimlmmnaaDoor
open Go.RowKit Ex Wx
/-- Five cells read as an effect, in blocks of Q alone. -/
def ReadsQ (Q : Nat → Prop) (w : World) : Nat → Array Value → ET → Prop
  | 0, _, _ => False
  | d + 1, cs, .node op n m who l => In64 op ∧ In64 n ∧ In64 m ∧ In64 who ∧ ∃ A c, cs = evC op n m who A l.length c ∧ l.length ≤ c ∧ c ≤ maxLen ∧
      ∀ i t, l[i]? = some t → ∃ b o xs, A = some ⟨b, o * 5, none⟩ ∧ Q b ∧ w.rangeAt b (o * 5 + i * 5) xs.toList ∧ (∃ cur, w.heap[b]? = some (.cells cur 46 (0, 0))) ∧ ReadsQ Q w d xs t
theorem ReadsQ.keep {Q Q' : Nat → Prop} {w w' : World} (hb : ∀ b, Q b → w'.heap[b]? = w.heap[b]?) (hq : ∀ b, Q b → Q' b) : ∀ {d : Nat} {cs : Array Value} {t : ET}, ReadsQ Q w d cs t → ReadsQ Q' w' d cs t
  | 0, _, _, h => h
  | d + 1, cs, .node op n m who l, h => by
    obtain ⟨h1, h2, h3, h4, A, c, e, hl, hc, hx⟩ := h
    refine ⟨h1, h2, h3, h4, A, c, e, hl, hc, fun i t hi => ?_⟩
    obtain ⟨b, o, xs, hA, hQ, hra, hfz, hrx⟩ := hx i t hi
    exact ⟨b, o, xs, hA, hq b hQ, fun j v hv => by rw [World.cell?_of_block (hb b hQ)]; exact hra j v hv, by rw [hb b hQ]; exact hfz, hrx.keep hb hq⟩
theorem ReadsQ.deeper {Q : Nat → Prop} {w : World} : ∀ {d d' : Nat} {cs : Array Value} {t : ET}, d ≤ d' → ReadsQ Q w d cs t → ReadsQ Q w d' cs t
  | 0, _, _, _, _, h => absurd h id
  | d + 1, 0, _, _, hd, _ => absurd hd (by omega)
  | d + 1, d' + 1, cs, .node op n m who l, hd, h => by
    obtain ⟨h1, h2, h3, h4, A, c, e, hl, hc, hx⟩ := h
    refine ⟨h1, h2, h3, h4, A, c, e, hl, hc, fun i t hi => ?_⟩
    obtain ⟨b, o, xs, hA, hb, hra, hfz, hrx⟩ := hx i t hi
    exact ⟨b, o, xs, hA, hb, hra, hfz, hrx.deeper (by omega)⟩
theorem ReadsQ.reads {Q : Nat → Prop} {w : World} {B : Nat} (hq : ∀ b, Q b → b < B) : ∀ {d : Nat} {cs : Array Value} {t : ET}, ReadsQ Q w d cs t → Reads B w d cs t
  | 0, _, _, h => h
  | d + 1, cs, .node op n m who l, h => by
    obtain ⟨h1, h2, h3, h4, A, c, e, hl, hc, hx⟩ := h
    refine ⟨h1, h2, h3, h4, A, c, e, hl, hc, fun i t hi => ?_⟩
    obtain ⟨b, o, xs, hA, hQ, hra, _, hrx⟩ := hx i t hi
    exact ⟨b, o * 5, xs, hA, hq b hQ, hra, hrx.reads hq⟩
theorem ReadsQ.apart {Q : Nat → Prop} {w : World} {B N : Nat} (hq : ∀ b, Q b → B ≤ b ∧ b < N) : ∀ {d : Nat} {cs : Array Value} {t : ET}, ReadsQ Q w d cs t → sizeT t ≤ 1000000 → Apart B N w d cs
  | 0, _, _, h, _ => h
  | d + 1, cs, .node op n m who l, h, hs => by
    obtain ⟨h1, h2, h3, h4, A, c, e, hl, hc, hx⟩ := h
    simp only [sizeT] at hs
    have hlen := sizeL_len l
    refine ⟨op, n, m, who, A, l.length, c, e, by omega, fun i hi => ?_⟩
    have hti := List.getElem?_eq_getElem hi
    obtain ⟨b, o, xs, hA, hQ, hra, hfz, hrx⟩ := hx i _ hti
    have := size_mem hti
    obtain ⟨cur, hcur⟩ := hfz
    exact ⟨b, o, xs, hA, (hq b hQ).1, (hq b hQ).2, hra, frozen_of_row w b _ _ _ hcur, hrx.apart hq (by omega)⟩
theorem ReadsQ.shape {Q : Nat → Prop} {d : Nat} {w : World} {cs : Array Value} {t : ET} (h : ReadsQ Q w d cs t) : ∃ A c, cs = evC t.op t.n t.m t.who A t.subs.length c := by
  cases d with
  | zero => exact absurd h id
  | succ d => cases t with
    | node op n m who l => obtain ⟨_, _, _, _, A, c, e, _⟩ := h; exact ⟨A, c, e⟩
theorem ReadsQ.size {Q : Nat → Prop} {d : Nat} {w : World} {cs : Array Value} {t : ET} (h : ReadsQ Q w d cs t) : cs.size = 5 := by
  obtain ⟨A, c, rfl⟩ := h.shape; rfl
theorem ReadsQ.one {Q : Nat → Prop} {d : Nat} {w : World} {cs : Array Value} {t : ET} (h : ReadsQ Q w d cs t) : ∀ u ∈ cs.toList, u.oneCell' = true := by
  obtain ⟨A, c, rfl⟩ := h.shape
  intro u hu
  simp [evC] at hu
  rcases hu with rfl | rfl | rfl | rfl | rfl <;> rfl
/-- All cells of a list of effects. -/
def flatC (css : List (Array Value)) : List Value := css.flatMap (·.toList)
theorem flatC_snoc (css : List (Array Value)) (cs : Array Value) : flatC (css ++ [cs]) = flatC css ++ cs.toList := by simp [flatC]
theorem flatC_len {css : List (Array Value)} (h : ∀ cs ∈ css, cs.size = 5) : (flatC css).length = css.length * 5 := by
  induction css with
  | nil => rfl
  | cons x css ih =>
    have h1 := h x (by simp)
    have h2 := ih (fun y hy => h y (by simp [hy]))
    simp only [flatC, List.flatMap_cons, List.length_append, Array.length_toList, List.length_cons] at h2 ⊢
    omega
theorem flatC_at : ∀ {css : List (Array Value)}, (∀ cs ∈ css, cs.size = 5) → ∀ (i : Nat) (cs : Array Value), css[i]? = some cs → ∀ j v, cs.toList[j]? = some v → (flatC css)[i * 5 + j]? = some v
  | [], _, i, cs, h, _, _, _ => by simp at h
  | x :: css, hs, 0, cs, h, j, v, hv => by
    simp at h; subst h
    simp only [flatC, List.flatMap_cons, Nat.zero_mul, Nat.zero_add]
    rw [List.getElem?_append_left (List.getElem?_eq_some_iff.1 hv).1]; exact hv
  | x :: css, hs, i + 1, cs, h, j, v, hv => by
    have h5 := hs x (by simp)
    have ih := flatC_at (css := css) (fun y hy => hs y (by simp [hy])) i cs (by simpa using h) j v hv
    simp only [flatC, List.flatMap_cons] at ih ⊢
    rw [List.getElem?_append_right (by rw [Array.length_toList]; omega), Array.length_toList, show (i + 1) * 5 + j - x.size = i * 5 + j by omega]
    exact ih
/-- A list of effects of the call's own: its cells, and how they read: in blocks from base on, not in the list's. -/
structure OwnE (w : World) (base d : Nat) (A : Option Addr) (n c : Nat) (ts : List ET) : Prop where
  css : ∃ css : List (Array Value), css.length = ts.length ∧ (∀ cs ∈ css, cs.size = 5) ∧ w.ownsRow base 46 5 (.slice A n c) n (flatC css) ∧
    ∀ (i : Nat) (t : ET) (cs : Array Value), ts[i]? = some t → css[i]? = some cs → ReadsQ (fun b => base ≤ b ∧ b < w.heap.size ∧ some b ≠ (Value.slice A n c).ownBlock) w d cs t
  len : ts.length = n
theorem OwnE.nil (w : World) (base d : Nat) : OwnE w base d none 0 0 [] := ⟨⟨[], rfl, by simp, World.ownsRow_nil w base _ 5, fun i t cs h => by simp at h⟩, rfl⟩
theorem OwnE.below {w w' : World} {base d n c : Nat} {A : Option Addr} {ts : List ET} (h : OwnE w base d A n c ts) (hb : Below w.heap.size w w') : OwnE w' base d A n c ts := by
  obtain ⟨⟨css, h1, h2, h3, h4⟩, h5⟩ := h
  refine ⟨⟨css, h1, h2, h3.kept ⟨hb.os, hb.tape, hb.output, hb.size, fun k hk _ => hb.block k hk⟩ (row := none) ?_, fun i t cs ht hc => (h4 i t cs ht hc).keep (fun b hq => hb.block b hq.2.1) (fun b hq => ⟨hq.1, by have := hb.size; omega, hq.2.2⟩)⟩, h5⟩
  by_cases hv : (Value.slice A n c).ownBlock = none
  · exact .inl hv
  · exact .inr (by intro e; exact hv e)
/-- The list's cells, read as effects within one. -/
theorem OwnE.within {w : World} {base d n c B : Nat} {A : Option Addr} {ts : List ET} (h : OwnE w base d A n c ts) (hB : w.heap.size ≤ B) :
    n ≤ c ∧ c ≤ maxLen ∧ ∀ (i : Nat) (t : ET), ts[i]? = some t → ∃ b o xs, A = some ⟨b, o * 5, none⟩ ∧ (base ≤ b ∧ b < B) ∧ w.rangeAt b (o * 5 + i * 5) xs.toList ∧ (∃ cur, w.heap[b]? = some (.cells cur 46 (0, 0))) ∧ ReadsQ (fun b => base ≤ b ∧ b < B) w d xs t := by
  obtain ⟨⟨css, h1, h2, h3, h4⟩, h5⟩ := h
  rcases h3.2 with ⟨hv, hn⟩ | ⟨g, cap, cur, hv, hbs, hg, hnc, hcm, hcs, htk⟩
  · injection hv with e1 e2 e3
    subst e3
    exact ⟨by omega, by unfold maxLen; omega, fun i t hi => by rw [hn] at h5; rw [List.eq_nil_of_length_eq_zero h5] at hi; simp at hi⟩
  · injection hv with e1 e2 e3
    subst e3
    refine ⟨hnc, hcm, fun i t hi => ?_⟩
    have hlt : i < css.length := by rw [h1]; exact (List.getElem?_eq_some_iff.1 hi).1
    have hcs' := List.getElem?_eq_getElem hlt
    have hgl := (Array.getElem?_eq_some_iff.1 hg).1
    refine ⟨g, 0, css[i], e1, ⟨hbs, by omega⟩, fun j v hv => ?_, ⟨_, hg⟩, (h4 i t _ hi hcs').keep (fun _ _ => rfl) (fun b hq => ⟨hq.1, by omega⟩)⟩
    have := h3.cells (g := g) (by rw [e1]; rfl) (i * 5 + j) v (flatC_at h2 i _ hcs' j v hv)
    rw [Addr.add_mid, ← Nat.add_assoc] at this
    rw [Nat.zero_mul]
    exact this
theorem OwnE.same {w w' : World} {base d n c : Nat} {A : Option Addr} {ts : List ET} (h : OwnE w base d A n c ts) (hs : w.heap.size ≤ w'.heap.size) (hb : ∀ b, base ≤ b → b < w.heap.size → w'.heap[b]? = w.heap[b]?) : OwnE w' base d A n c ts := by
  obtain ⟨⟨css, h1, h2, h3, h4⟩, h5⟩ := h
  refine ⟨⟨css, h1, h2, ⟨h3.1, ?_⟩, fun i t cs ht hc => (h4 i t cs ht hc).keep (fun b hq => hb b hq.1 hq.2.1) (fun b hq => ⟨hq.1, by omega, hq.2.2⟩)⟩, h5⟩
  rcases h3.2 with hv | ⟨g, cap, cur, hv, hbs, hg, rest⟩
  · exact .inl hv
  · exact .inr ⟨g, cap, cur, hv, hbs, by rw [hb g hbs (Array.getElem?_eq_some_iff.1 hg).1]; exact hg, rest⟩
theorem OwnE.ownLt {w : World} {base d n c : Nat} {A : Option Addr} {ts : List ET} (h : OwnE w base d A n c ts) : ∀ g, (Value.slice A n c).ownBlock = some g → base ≤ g := by
  obtain ⟨⟨css, _, _, h3, _⟩, _⟩ := h
  exact fun g hg => (h3.lt g hg).1
theorem OwnE.ownTop {w : World} {base d n c : Nat} {A : Option Addr} {ts : List ET} (h : OwnE w base d A n c ts) : ∀ g, (Value.slice A n c).ownBlock = some g → g < w.heap.size := by
  obtain ⟨⟨css, _, _, h3, _⟩, _⟩ := h
  exact fun g hg => (h3.lt g hg).2
theorem buildSlice_five (a b c d e : Value) (W : World) : (Instr.buildSlice 44 1 #[(0, .agg #[a, b, c, d, e])]).run Tryd.prog W = .ok (.slice (some ⟨W.heap.size, 0, none⟩) 1 1) (W.alloc (.cells #[a, b, c, d, e] 46)) := by
  kernel_rfl
theorem buildSlice_eff (cs : Array Value) (hs : cs.size = 5) (W : World) : (Instr.buildSlice 44 1 #[(0, .agg cs)]).run Tryd.prog W = .ok (.slice (some ⟨W.heap.size, 0, none⟩) 1 1) (W.alloc (.cells cs 46)) := by
  obtain ⟨l⟩ := cs
  match l, hs with
  | [a, b, c, d, e], _ => exact buildSlice_five a b c d e W
theorem wpList_buildSlice_eff {ops : Array Oper} {rest : List Oper} {o : Oper} {a : Act} {w : World} {Q : Exit → Act → World → Prop} (hg : o.guard = none) (x : Operand) (ho : o.op = .buildSlice 44 1 #[(0, x)])
    (cs : Array Value) (hs : cs.size = 5) (hx : a.eval x = .agg cs) (hK : wpList Tryd.prog ops Q rest (a.put o.dst (.slice (some ⟨w.heap.size, 0, none⟩) 1 1)) (w.alloc (.cells cs 46))) : wpList Tryd.prog ops Q (o :: rest) a w := by
  refine wpList_plain hg fun K' hK' => ?_
  unfold Oper.wp
  simp [execOp, ho, hx, buildSlice_eff cs hs, Result.andThen]
  exact hK' _ _ hK
theorem info_eff : (Tryd.prog.info? 46).map (fun i => (i.zero, i.size, i.bytes)) = some (some (.agg zeroE), 5, 56) := by kernel_rfl
/-- One more effect behind the list. -/
theorem wpList_appE {ops : Array Oper} {rest : List Oper} {o : Oper} {a : Act} {w : World} {Q : Exit → Act → World → Prop} (hgd : o.guard = none) (s x : Operand)
    (ho : o.op = .call { callee := .builtin .append, args := #[s, x], argTypes := #[44, 44] })
    (base d : Nat) (A : Option Addr) (n c : Nat) (ts : List ET) (hs : a.eval s = .slice A n c) (h : OwnE w base d A n c ts)
    (g c2 : Nat) (xs : Array Value) (hx : a.eval x = .slice (some ⟨g, 0, none⟩) 1 c2) (hg : EvAt w g xs) (t : ET)
    (hr : ReadsQ (fun b => base ≤ b ∧ b < w.heap.size ∧ some b ≠ (Value.slice A n c).ownBlock) w d xs t) (hn : n ≤ 1000) (hbase : base ≤ w.heap.size)
    (hK : ∀ A' c' w', OwnE w' base d A' (n + 1) c' (ts ++ [t]) → w.grownBy w' (Value.slice A n c).ownBlock → wpList Tryd.prog ops Q rest (a.put o.dst (.slice A' (n + 1) c')) w') :
    wpList Tryd.prog ops Q (o :: rest) a w := by
  obtain ⟨i0, hi, hz0, hz1, hz2⟩ := info_parts info_eff
  obtain ⟨⟨css, h1, h2, h3, h4⟩, h5⟩ := h
  have hxs := hr.size
  refine wpList_append_own_at w hgd s x 44 ho base 46 i0 _ 5 56 Tryd.underlying44 hi hz0 hz1 hz2 rfl (by omega) _ n (flatC css) hs h3 ⟨g, 0, none⟩ 1 c2 xs.toList hx (by rw [Array.length_toList, hxs])
    (fun j u hj => by rw [Addr.add_mid, Nat.zero_add, hg.cell, ← Array.getElem?_toList]; exact hj) hr.one (by unfold maxLen; omega) (by omega) hbase ?_
  intro v' w' hown hgr hnil hat
  rw [← flatC_snoc] at hown
  have hform : ∃ A' c', v' = .slice A' (n + 1) c' := by
    rcases hown.2 with ⟨rfl, hz⟩ | ⟨g', cap, _, rfl, _⟩
    · omega
    · exact ⟨_, _, rfl⟩
  obtain ⟨A', c', rfl⟩ := hform
  have hsz := hgr.size
  refine hK A' c' w' ⟨⟨css ++ [xs], by simp [h1], fun cs hc => ?_, hown, fun i t2 cs ht hc => ?_⟩, by simp [h5]⟩ hgr
  · rcases List.mem_append.1 hc with hc | hc
    · exact h2 cs hc
    · simp at hc; subst hc; exact hxs
  · have hq : ReadsQ (fun b => base ≤ b ∧ b < w.heap.size ∧ some b ≠ (Value.slice A n c).ownBlock) w d cs t2 := by
      by_cases e : i < ts.length
      · rw [List.getElem?_append_left e] at ht
        rw [List.getElem?_append_left (by omega)] at hc
        exact h4 i t2 cs ht hc
      · rw [List.getElem?_append_right (by omega)] at ht hc
        rw [h1] at hc
        cases hk : i - ts.length with
        | zero =>
          rw [hk] at ht hc
          simp at ht hc
          subst ht; subst hc
          exact hr
        | succ k => rw [hk] at ht; simp at ht
    refine hq.keep (fun b hb => hgr.block b hb.2.1 hb.2.2) (fun b hb => ⟨hb.1, by omega, ?_⟩)
    rcases hat with hat | hat
    · rw [hat]; exact hb.2.2
    · rw [hat]; simp; omega
/-- A whole array of cells, and two numbers, as results. -/
theorem results_cell_two {P : Program} {fn : Func} {p q r : Tmp} {ty : TypeId} (h : fn.results = #[.cell p ty, .tmp q, .tmp r]) (tmps : Array Value) (w : World) (g : Nat) (t : TypeId) (cs : Array Value) (fr : Nat × Nat) (d : TypeDesc)
    (hp : tmps.getD p undef = .pointer (some ⟨g, 0, none⟩)) (hg : w.heap[g]? = some (.cells cs t fr))
    (hu : P.underlying ty = some d) (hd : (match d with | .struct _ | .array _ _ => true | _ => false) = true) (hi : (P.info? ty).map (·.size) = some cs.size) :
    (results fn tmps).run P w = .ok (.tuple #[.agg cs, tmps.getD q undef, tmps.getD r undef]) w := by
  have hp' : tmps[p]?.getD undef = .pointer (some ⟨g, 0, none⟩) := by simpa using hp
  simp [results, h, hp', asAddr, run_loadVar_row w g t ty cs fr d hg hu hd hi]
end Go.Proofs.YtmdfgkfimlmmnaaDoor
