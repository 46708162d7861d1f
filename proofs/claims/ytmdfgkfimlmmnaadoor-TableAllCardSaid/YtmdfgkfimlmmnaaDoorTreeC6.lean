/- Layer 6: the contract of effect's Copy. -/
import Derived.Test.YtmdfgkfimlmmnaaDoorTreeMade
namespace Go.Proofs.YtmdfgkfimlmmnaaDoor
open Go.RowKit Ex Wx
/-- One more effect behind the list: the operation alone. -/
theorem wp_appE {o : Oper} {a : Act} {w : World} {K : Act → World → Prop} {Q : Exit → Act → World → Prop} (s x : Operand)
    (ho : o.op = .call { callee := .builtin .append, args := #[s, x], argTypes := #[44, 44] })
    (base d : Nat) (A : Option Addr) (n c : Nat) (ts : List ET) (hs : a.eval s = .slice A n c) (h : OwnE w base d A n c ts)
    (g c2 : Nat) (xs : Array Value) (hx : a.eval x = .slice (some ⟨g, 0, none⟩) 1 c2) (hg : EvAt w g xs) (t : ET)
    (hr : ReadsQ (fun b => base ≤ b ∧ b < w.heap.size ∧ some b ≠ (Value.slice A n c).ownBlock) w d xs t) (hn : n ≤ 1000) (hbase : base ≤ w.heap.size)
    (hK : ∀ A' c' w', OwnE w' base d A' (n + 1) c' (ts ++ [t]) → w.grownBy w' (Value.slice A n c).ownBlock → K (a.put o.dst (.slice A' (n + 1) c')) w') : o.wp Tryd.prog a w K Q := by
  obtain ⟨i0, hi, hz0, hz1, hz2⟩ := info_parts info_eff
  obtain ⟨⟨css, h1, h2, h3, h4⟩, h5⟩ := h
  have hxs := hr.size
  obtain ⟨v', w', hrun, hown, hgr, hnil, hat⟩ := run_append_own_at (P := Tryd.prog) w base 44 o.type 46 i0 _ 5 56 Tryd.underlying44 hi hz0 hz1 hz2 rfl (by omega) _ n (flatC css) h3 ⟨g, 0, none⟩ 1 c2 xs.toList (by rw [Array.length_toList, hxs])
    (fun j u hj => by rw [Addr.add_mid, Nat.zero_add, hg.cell, ← Array.getElem?_toList]; exact hj) hr.one (by unfold maxLen; omega) (by omega) hbase
  rw [← flatC_snoc] at hown
  have hform : ∃ A' c', v' = .slice A' (n + 1) c' := by
    rcases hown.2 with ⟨rfl, hz⟩ | ⟨g', cap, _, rfl, _⟩
    · omega
    · exact ⟨_, _, rfl⟩
  obtain ⟨A', c', rfl⟩ := hform
  have hsz := hgr.size
  have hfin := hK A' c' w' ⟨⟨css ++ [xs], by simp [h1], fun cs hc => by
      rcases List.mem_append.1 hc with hc | hc
      · exact h2 cs hc
      · simp at hc; subst hc; exact hxs, hown, fun i t2 cs ht hc => by
      have hq : ReadsQ (fun b => base ≤ b ∧ b < w.heap.size ∧ some b ≠ (Value.slice A n c).ownBlock) w d cs t2 := by
        by_cases e : i < ts.length
        · rw [List.getElem?_append_left e] at ht
          rw [List.getElem?_append_left (by omega)] at hc
          exact h4 i t2 cs ht hc
        · rw [List.getElem?_append_right (by omega)] at ht hc
          rw [h1] at hc
          cases hk : i - ts.length with
          | zero =>
            rw [hk] at ht hc
            simp at ht hc
            subst ht; subst hc
            exact hr
          | succ k => rw [hk] at ht; simp at ht
      refine hq.keep (fun b hb => hgr.block b hb.2.1 hb.2.2) (fun b hb => ⟨hb.1, by omega, ?_⟩)
      rcases hat with hat | hat
      · rw [hat]; exact hb.2.2
      · rw [hat]; simp; omega⟩, by simp [h5]⟩ hgr
  unfold Oper.wp execOp
  simp only [ho, resolve, invoke, builtin, Sem.run_bind, Sem.run_pure, Result.andThen_ok, List.map_toArray, List.map_cons, List.map_nil, hs, hx, hrun]
  exact hfin
theorem wp_buildSlice_eff {o : Oper} {a : Act} {w : World} {K : Act → World → Prop} {Q : Exit → Act → World → Prop} (x : Operand) (ho : o.op = .buildSlice 44 1 #[(0, x)])
    (cs : Array Value) (hs : cs.size = 5) (hx : a.eval x = .agg cs) (hK : K (a.put o.dst (.slice (some ⟨w.heap.size, 0, none⟩) 1 1)) (w.alloc (.cells cs 46))) : o.wp Tryd.prog a w K Q := by
  unfold Oper.wp
  simp [execOp, ho, hx, buildSlice_eff cs hs, Result.andThen]
  exact hK
theorem results_cell_one {P : Program} {fn : Func} {p : Tmp} {ty : TypeId} (h : fn.results = #[.cell p ty]) (tmps : Array Value) (w : World) (g : Nat) (t : TypeId) (cs : Array Value) (fr : Nat × Nat) (d : TypeDesc)
    (hp : tmps.getD p undef = .pointer (some ⟨g, 0, none⟩)) (hg : w.heap[g]? = some (.cells cs t fr))
    (hu : P.underlying ty = some d) (hd : (match d with | .struct _ | .array _ _ => true | _ => false) = true) (hi : (P.info? ty).map (·.size) = some cs.size) :
    (results fn tmps).run P w = .ok (.agg cs) w := by
  have hp' : tmps[p]?.getD undef = .pointer (some ⟨g, 0, none⟩) := by simpa using hp
  simp [results, h, hp', asAddr, run_loadVar_row w g t ty cs fr d hg hu hd hi]
end Go.Proofs.YtmdfgkfimlmmnaaDoor
