/- Layer 7: abilities that a call makes: a list of abilities that is appended to, each reading in blocks of its own. -/
import Derived.Test.YtmdfgkfimlmmnaaDoorCardMade
import Derived.Test.YtmdfgkfimlmmnaaDoorCardBase
import Derived.Test.YtmdfgkfimlmmnaaDoorTreeC6
namespace Go.Proofs.YtmdfgkfimlmmnaaDoor
open Go.RowKit Ex Mx
theorem ReadsAQ.size {Q : Nat → Prop} {w : World} {d : Nat} {cs : Array Value} {a : AbT} (h : ReadsAQ Q w d cs a) : cs.size = 14 := by
  obtain ⟨_, _, _, xs, rfl, hr⟩ := h
  have := hr.size
  simp [abC, arr_size, this]
theorem ReadsAQ.one {Q : Nat → Prop} {w : World} {d : Nat} {cs : Array Value} {a : AbT} (h : ReadsAQ Q w d cs a) : ∀ u ∈ cs.toList, u.oneCell' = true := by
  obtain ⟨_, _, _, xs, rfl, hr⟩ := h
  have h1 := hr.one
  have h2 := arr_one .i64 6 a.cost
  intro u hu
  simp only [abC, Array.toList_append, List.mem_append] at hu
  rcases hu with ((hu | hu) | hu) | hu
  · simp at hu; subst hu; rfl
  · exact (Array.all_eq_true_iff_forall_mem.1 h2) u (by simpa using hu)
  · simp at hu; rcases hu with rfl | rfl <;> rfl
  · exact h1 u hu
theorem flatA_at : ∀ {css : List (Array Value)}, (∀ cs ∈ css, cs.size = 14) → ∀ (i : Nat) (cs : Array Value), css[i]? = some cs → ∀ j v, cs.toList[j]? = some v → (flatC css)[i * 14 + j]? = some v
  | [], _, i, cs, h, _, _, _ => by simp at h
  | x :: css, hs, 0, cs, h, j, v, hv => by
    simp at h; subst h
    simp only [flatC, List.flatMap_cons, Nat.zero_mul, Nat.zero_add]
    rw [List.getElem?_append_left (List.getElem?_eq_some_iff.1 hv).1]; exact hv
  | x :: css, hs, i + 1, cs, h, j, v, hv => by
    have h5 := hs x (by simp)
    have ih := flatA_at (css := css) (fun y hy => hs y (by simp [hy])) i cs (by simpa using h) j v hv
    simp only [flatC, List.flatMap_cons] at ih ⊢
    rw [List.getElem?_append_right (by rw [Array.length_toList]; omega), Array.length_toList, show (i + 1) * 14 + j - x.size = i * 14 + j by omega]
    exact ih
/-- A list of abilities of the call's own: its cells, and how they read: in blocks from base on, not in the list's. -/
structure OwnA (w : World) (base d : Nat) (A : Option Addr) (n c : Nat) (ts : List AbT) : Prop where
  css : ∃ css : List (Array Value), css.length = ts.length ∧ (∀ cs ∈ css, cs.size = 14) ∧ w.ownsRow base 48 14 (.slice A n c) n (flatC css) ∧
    ∀ (i : Nat) (t : AbT) (cs : Array Value), ts[i]? = some t → css[i]? = some cs → ReadsAQ (fun b => base ≤ b ∧ b < w.heap.size ∧ some b ≠ (Value.slice A n c).ownBlock) w d cs t
  len : ts.length = n
theorem OwnA.nil (w : World) (base d : Nat) : OwnA w base d none 0 0 [] := ⟨⟨[], rfl, by simp, World.ownsRow_nil w base _ 14, fun i t cs h => by simp at h⟩, rfl⟩
theorem OwnA.below {w w' : World} {base d n c : Nat} {A : Option Addr} {ts : List AbT} (h : OwnA w base d A n c ts) (hb : Below w.heap.size w w') : OwnA w' base d A n c ts := by
  obtain ⟨⟨css, h1, h2, h3, h4⟩, h5⟩ := h
  refine ⟨⟨css, h1, h2, h3.kept ⟨hb.os, hb.tape, hb.output, hb.size, fun k hk _ => hb.block k hk⟩ (row := none) ?_, fun i t cs ht hc => (h4 i t cs ht hc).keep (fun b hq => hb.block b hq.2.1) (fun b hq => ⟨hq.1, by have := hb.size; omega, hq.2.2⟩)⟩, h5⟩
  by_cases hv : (Value.slice A n c).ownBlock = none
  · exact .inl hv
  · exact .inr (by intro e; exact hv e)
/-- The list's cells, read as abilities within one. -/
theorem OwnA.within {w : World} {base d n c B : Nat} {A : Option Addr} {ts : List AbT} (h : OwnA w base d A n c ts) (hB : w.heap.size ≤ B) :
    n ≤ c ∧ c ≤ maxLen ∧ RdAQ (fun b => base ≤ b ∧ b < B) w d A ts := by
  obtain ⟨⟨css, h1, h2, h3, h4⟩, h5⟩ := h
  rcases h3.2 with ⟨hv, hn⟩ | ⟨g, cap, cur, hv, hbs, hg, hnc, hcm, hcs, htk⟩
  · injection hv with e1 e2 e3
    subst e3
    exact ⟨by omega, by unfold maxLen; omega, fun i t hi => by rw [hn] at h5; rw [List.eq_nil_of_length_eq_zero h5] at hi; simp at hi⟩
  · injection hv with e1 e2 e3
    subst e3
    refine ⟨hnc, hcm, fun i t hi => ?_⟩
    have hlt : i < css.length := by rw [h1]; exact (List.getElem?_eq_some_iff.1 hi).1
    have hcs' := List.getElem?_eq_getElem hlt
    have hgl := (Array.getElem?_eq_some_iff.1 hg).1
    refine ⟨g, 0, css[i], e1, ⟨hbs, by omega⟩, ⟨_, hg⟩, fun j v hv => ?_, (h4 i t _ hi hcs').keep (fun _ _ => rfl) (fun b hq => ⟨hq.1, by omega⟩)⟩
    have := h3.cells (g := g) (by rw [e1]; rfl) (i * 14 + j) v (flatA_at h2 i _ hcs' j v hv)
    rw [Addr.add_mid, ← Nat.add_assoc] at this
    rw [Nat.zero_mul]
    exact this
theorem OwnA.same {w w' : World} {base d n c : Nat} {A : Option Addr} {ts : List AbT} (h : OwnA w base d A n c ts) (hs : w.heap.size ≤ w'.heap.size) (hb : ∀ b, base ≤ b → b < w.heap.size → w'.heap[b]? = w.heap[b]?) : OwnA w' base d A n c ts := by
  obtain ⟨⟨css, h1, h2, h3, h4⟩, h5⟩ := h
  refine ⟨⟨css, h1, h2, ⟨h3.1, ?_⟩, fun i t cs ht hc => (h4 i t cs ht hc).keep (fun b hq => hb b hq.1 hq.2.1) (fun b hq => ⟨hq.1, by omega, hq.2.2⟩)⟩, h5⟩
  rcases h3.2 with hv | ⟨g, cap, cur, hv, hbs, hg, rest⟩
  · exact .inl hv
  · exact .inr ⟨g, cap, cur, hv, hbs, by rw [hb g hbs (Array.getElem?_eq_some_iff.1 hg).1]; exact hg, rest⟩
theorem OwnA.ownLt {w : World} {base d n c : Nat} {A : Option Addr} {ts : List AbT} (h : OwnA w base d A n c ts) : ∀ g, (Value.slice A n c).ownBlock = some g → base ≤ g := by
  obtain ⟨⟨css, _, _, h3, _⟩, _⟩ := h
  exact fun g hg => (h3.lt g hg).1
theorem OwnA.ownTop {w : World} {base d n c : Nat} {A : Option Addr} {ts : List AbT} (h : OwnA w base d A n c ts) : ∀ g, (Value.slice A n c).ownBlock = some g → g < w.heap.size := by
  obtain ⟨⟨css, _, _, h3, _⟩, _⟩ := h
  exact fun g hg => (h3.lt g hg).2
theorem buildSlice_14 (a0 a1 a2 a3 a4 a5 a6 a7 a8 a9 a10 a11 a12 a13 : Value) (W : World) : (Instr.buildSlice 25 1 #[(0, .agg #[a0, a1, a2, a3, a4, a5, a6, a7, a8, a9, a10, a11, a12, a13])]).run Tryd.prog W = .ok (.slice (some ⟨W.heap.size, 0, none⟩) 1 1) (W.alloc (.cells #[a0, a1, a2, a3, a4, a5, a6, a7, a8, a9, a10, a11, a12, a13] 48)) := by
  kernel_rfl
theorem buildSlice_ab (cs : Array Value) (hs : cs.size = 14) (W : World) : (Instr.buildSlice 25 1 #[(0, .agg cs)]).run Tryd.prog W = .ok (.slice (some ⟨W.heap.size, 0, none⟩) 1 1) (W.alloc (.cells cs 48)) := by
  obtain ⟨l⟩ := cs
  match l, hs with
  | [a0, a1, a2, a3, a4, a5, a6, a7, a8, a9, a10, a11, a12, a13], _ => exact buildSlice_14 a0 a1 a2 a3 a4 a5 a6 a7 a8 a9 a10 a11 a12 a13 W
theorem wpList_buildSlice_ab {ops : Array Oper} {rest : List Oper} {o : Oper} {a : Act} {w : World} {Q : Exit → Act → World → Prop} (hg : o.guard = none) (x : Operand) (ho : o.op = .buildSlice 25 1 #[(0, x)])
    (cs : Array Value) (hs : cs.size = 14) (hx : a.eval x = .agg cs) (hK : wpList Tryd.prog ops Q rest (a.put o.dst (.slice (some ⟨w.heap.size, 0, none⟩) 1 1)) (w.alloc (.cells cs 48))) : wpList Tryd.prog ops Q (o :: rest) a w := by
  refine wpList_plain hg fun K' hK' => ?_
  unfold Oper.wp
  simp [execOp, ho, hx, buildSlice_ab cs hs, Result.andThen]
  exact hK' _ _ hK
theorem info_ab : (Tryd.prog.info? 48).map (fun i => (i.zero, i.size, i.bytes)) = some (some (.agg zeroA), 14, 128) := by kernel_rfl
/-- One more ability behind the list. -/
theorem wpList_appA {ops : Array Oper} {rest : List Oper} {o : Oper} {a : Act} {w : World} {Q : Exit → Act → World → Prop} (hgd : o.guard = none) (s x : Operand)
    (ho : o.op = .call { callee := .builtin .append, args := #[s, x], argTypes := #[25, 25] })
    (base d : Nat) (A : Option Addr) (n c : Nat) (ts : List AbT) (hs : a.eval s = .slice A n c) (h : OwnA w base d A n c ts)
    (g c2 : Nat) (xs : Array Value) (hx : a.eval x = .slice (some ⟨g, 0, none⟩) 1 c2) (hg : AbAt w g xs) (t : AbT)
    (hr : ReadsAQ (fun b => base ≤ b ∧ b < w.heap.size ∧ some b ≠ (Value.slice A n c).ownBlock) w d xs t) (hn : n ≤ 1000) (hbase : base ≤ w.heap.size)
    (hK : ∀ A' c' w', OwnA w' base d A' (n + 1) c' (ts ++ [t]) → w.grownBy w' (Value.slice A n c).ownBlock → wpList Tryd.prog ops Q rest (a.put o.dst (.slice A' (n + 1) c')) w') :
    wpList Tryd.prog ops Q (o :: rest) a w := by
  obtain ⟨i0, hi, hz0, hz1, hz2⟩ := info_parts info_ab
  obtain ⟨⟨css, h1, h2, h3, h4⟩, h5⟩ := h
  have hxs := hr.size
  refine wpList_append_own_at w hgd s x 25 ho base 48 i0 _ 14 128 Tryd.underlying25 hi hz0 hz1 hz2 rfl (by omega) _ n (flatC css) hs h3 ⟨g, 0, none⟩ 1 c2 xs.toList hx (by rw [Array.length_toList, hxs])
    (fun j u hj => by rw [Addr.add_mid, Nat.zero_add, hg.cell, ← Array.getElem?_toList]; exact hj) hr.one (by unfold maxLen; omega) (by omega) hbase ?_
  intro v' w' hown hgr hnil hat
  rw [← flatC_snoc] at hown
  have hform : ∃ A' c', v' = .slice A' (n + 1) c' := by
    rcases hown.2 with ⟨rfl, hz⟩ | ⟨g', cap, _, rfl, _⟩
    · omega
    · exact ⟨_, _, rfl⟩
  obtain ⟨A', c', rfl⟩ := hform
  have hsz := hgr.size
  refine hK A' c' w' ⟨⟨css ++ [xs], by simp [h1], fun cs hc => ?_, hown, fun i t2 cs ht hc => ?_⟩, by simp [h5]⟩ hgr
  · rcases List.mem_append.1 hc with hc | hc
    · exact h2 cs hc
    · simp at hc; subst hc; exact hxs
  · have hq : ReadsAQ (fun b => base ≤ b ∧ b < w.heap.size ∧ some b ≠ (Value.slice A n c).ownBlock) w d cs t2 := by
      by_cases e : i < ts.length
      · rw [List.getElem?_append_left e] at ht
        rw [List.getElem?_append_left (by omega)] at hc
        exact h4 i t2 cs ht hc
      · rw [List.getElem?_append_right (by omega)] at ht hc
        rw [h1] at hc
        cases hk : i - ts.length with
        | zero =>
          rw [hk] at ht hc
          simp at ht hc
          subst ht; subst hc
          exact hr
        | succ k => rw [hk] at ht; simp at ht
    refine hq.keep (fun b hb => hgr.block b hb.2.1 hb.2.2) (fun b hb => ⟨hb.1, by omega, ?_⟩)
    rcases hat with hat | hat
    · rw [hat]; exact hb.2.2
    · rw [hat]; simp; omega
/-- Cells written into a block of the call's own. -/
theorem below_setCells {B b : Nat} (hB : B ≤ b) : ∀ (vs : List Value) (o : Nat) (a w : World), Below B a w → Below B a (w.setCells b o vs)
  | [], _, _, _, h => h
  | v :: vs, o, a, _, h => below_setCells hB vs (o + 1) a _ (h.setCell hB v)
theorem setCells_other {b g : Nat} (hg : g ≠ b) : ∀ (vs : List Value) (o : Nat) (w : World), (w.setCells b o vs).heap[g]? = w.heap[g]?
  | [], _, _ => rfl
  | v :: vs, o, w => (setCells_other hg vs (o + 1) _).trans (heap_setCell_other w ⟨b, o, none⟩ g v (by simpa using hg))
theorem setCells_size {b : Nat} : ∀ (vs : List Value) (o : Nat) (w : World), (w.setCells b o vs).heap.size = w.heap.size
  | [], _, _ => rfl
  | v :: vs, o, w => (setCells_size vs (o + 1) _).trans (by simp [World.setCell])
theorem ab_there {w : World} {g : Nat} {a : AbT} {xs : Array Value} (h : AbAt w g (abC a xs)) (hs : xs.size = 5) : w.there g 9 5 := fun j hj => by
  have h14 : (abC a xs).size = 14 := by simp [abC, arr_size, hs]
  exact ⟨by rw [h.cell, Array.getElem?_eq_getElem (by omega)]; rfl, frozen_of_row w g (9 + j) _ _ h⟩
theorem abC14 (a : AbT) (x0 x1 x2 x3 x4 : Value) : abC a #[x0, x1, x2, x3, x4] = #[.int .i64 a.when_, .int .i64 (a.cost 0), .int .i64 (a.cost 1), .int .i64 (a.cost 2), .int .i64 (a.cost 3), .int .i64 (a.cost 4), .int .i64 (a.cost 5), .bool a.tap, .int .i64 a.target, x0, x1, x2, x3, x4] := by
  rw [abC9]; simp
/-- Another effect is written into the box of an ability. -/
theorem ab_store {w : World} {g : Nat} {a : AbT} {xs ys : Array Value} (h : AbAt w g (abC a xs)) (hs : xs.size = 5) (hy : ys.size = 5) : AbAt (w.setCells g 9 ys.toList) g (abC a ys) := by
  obtain ⟨l⟩ := xs
  obtain ⟨l'⟩ := ys
  match l, hs with
  | [x0, x1, x2, x3, x4], _ =>
    match l', hy with
    | [y0, y1, y2, y3, y4], _ =>
      have hc : (((((abC a #[x0, x1, x2, x3, x4]).setIfInBounds 9 y0).setIfInBounds 10 y1).setIfInBounds 11 y2).setIfInBounds 12 y3).setIfInBounds 13 y4 = abC a #[y0, y1, y2, y3, y4] := by
        rw [abC14, abC14]; simp only [List.setIfInBounds_toArray, List.set_cons_zero, List.set_cons_succ]
      have e1 := heap_setCell_same w g 9 _ _ y0 h
      have e2 := heap_setCell_same _ g 10 _ _ y1 e1
      have e3 := heap_setCell_same _ g 11 _ _ y2 e2
      have e4 := heap_setCell_same _ g 12 _ _ y3 e3
      have e5 := heap_setCell_same _ g 13 _ _ y4 e4
      rw [hc] at e5
      have hw : w.setCells g 9 (Array.mk [y0, y1, y2, y3, y4]).toList = ((((w.setCell ⟨g, 9, none⟩ y0).setCell ⟨g, 10, none⟩ y1).setCell ⟨g, 11, none⟩ y2).setCell ⟨g, 12, none⟩ y3).setCell ⟨g, 13, none⟩ y4 := by
        simp only [World.setCells]
      rw [hw]
      exact e5
theorem cd_set (c : CardT) (A A' : Option Addr) (k cc k' cc' : Nat) : (cardC c A k cc).setIfInBounds 12 (.slice A' k' cc') = cardC c A' k' cc' := by
  unfold cardC; rw [arr6]; rfl
end Go.Proofs.YtmdfgkfimlmmnaaDoor
