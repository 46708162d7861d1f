/- append of any slice of numbers, with where it lies then. Over any program. -/
import Derived.Test.YtmhabodijmnldaaDoorSl
namespace Go.Proofs.YtmhabodijmnldaaDoor
open Go.RowKit
/-- append of any slice of numbers to one of the call's own, with where it lies then. -/
theorem run_appG {P : Program} (w : World) (k : IntKind) (base : Nat) (t ty e : TypeId) (i : TypeInfo) (z : Value) (bytes : Nat) (ht : P.underlying t = some (.slice e)) (hi : P.info? e = some i) (hz : i.zero = some z)
    (hsize : i.size = 1) (hby : i.bytes = bytes) (hzs : z.cells.size = 1)
    {A : Option Addr} {n c : Nat} {l : List Int} (hown : Own k e w base A n c l) {B : Nat} {A2 : Option Addr} {m c2 : Nat} {l2 : List Int} (h2 : Nums k w B A2 m l2)
    (hsm : n + m ≤ 4294967296) (hb8 : bytes ≤ 8) (hbase : base ≤ w.heap.size) :
    ∃ A' c' w', (Builtin.append_ #[t, t] ty #[.slice A n c, .slice A2 m c2]).run P w = .ok (.slice A' (n + m) c') w' ∧ Own k e w' base A' (n + m) c' (l ++ l2) ∧ w.grownBy w' (Value.slice A n c).ownBlock ∧
      ((Value.slice A' (n + m) c').ownBlock = (Value.slice A n c).ownBlock ∨ (Value.slice A' (n + m) c').ownBlock = some w.heap.size) := by
  have hlen : (l ++ l2).length = n + m := by rw [List.length_append, hown.1, h2.1]
  rcases A2 with _ | ad
  · have hl2 : l2 = [] := by
      cases l2 with
      | nil => rfl
      | cons x r => obtain ⟨a, e, _⟩ := h2.2 0 x (by simp); cases e
    subst hl2
    obtain rfl : m = 0 := by have := h2.1; simpa using this.symm
    exact ⟨A, c, w, run_app_nil w base t ty e i ht hi _ n _ hown.2 c2, by simpa using hown, World.grownBy.refl w _, .inl rfl⟩
  · obtain ⟨v', w', hrun, h3, h4, _, h5⟩ := run_append_own_at (P := P) w base t ty e i z 1 bytes ht hi hz hsize hby hzs (by omega) (.slice A n c) n (l.map (Value.int k)) hown.2 ad m c2 (l2.map (Value.int k))
      (by rw [List.length_map, h2.1]; omega)
      (fun j u hj => by
        rw [List.getElem?_map, Option.map_eq_some_iff] at hj
        obtain ⟨x, hx, rfl⟩ := hj
        obtain ⟨a, ea, _, hc⟩ := h2.2 j x hx
        injection ea with ea
        subst ea
        exact hc) (ints_one k l2) (by unfold maxLen; omega)
      (by have : (n + m) * bytes ≤ 4294967296 * 8 := Nat.mul_le_mul hsm hb8
          omega) hbase
    rw [← List.map_append] at h3
    rcases h3.2 with ⟨rfl, hn⟩ | ⟨g, cap, cur, rfl, rest⟩
    · rw [hn] at h3 ⊢
      refine ⟨none, 0, w', hrun, ⟨by omega, h3⟩, h4, h5⟩
    · exact ⟨_, cap, w', hrun, ⟨hlen, h3⟩, h4, h5⟩
theorem wpList_appG {P : Program} {w : World} {ops : Array Oper} {rest : List Oper} {o : Oper} {a : Act} {Q : Exit → Act → World → Prop} (hgd : o.guard = none) (s x : Operand) (t : TypeId)
    (ho : o.op = .call { callee := .builtin .append, args := #[s, x], argTypes := #[t, t] })
    (k : IntKind) (base : Nat) (e : TypeId) (i : TypeInfo) (z : Value) (bytes : Nat) (ht : P.underlying t = some (.slice e)) (hi : P.info? e = some i) (hz : i.zero = some z)
    (hsize : i.size = 1) (hby : i.bytes = bytes) (hzs : z.cells.size = 1)
    (A : Option Addr) (n c : Nat) (l : List Int) (hs : a.eval s = .slice A n c) (hown : Own k e w base A n c l)
    (B : Nat) (A2 : Option Addr) (m c2 : Nat) (l2 : List Int) (hx : a.eval x = .slice A2 m c2) (h2 : Nums k w B A2 m l2)
    (hsm : n + m ≤ 4294967296) (hb8 : bytes ≤ 8) (hbase : base ≤ w.heap.size)
    (h : ∀ A' c' w', Own k e w' base A' (n + m) c' (l ++ l2) → w.grownBy w' (Value.slice A n c).ownBlock → ((Value.slice A' (n + m) c').ownBlock = (Value.slice A n c).ownBlock ∨ (Value.slice A' (n + m) c').ownBlock = some w.heap.size) →
      wpList P ops Q rest (a.put o.dst (.slice A' (n + m) c')) w') :
    wpList P ops Q (o :: rest) a w := by
  refine wpList_plain hgd fun K hK => ?_
  obtain ⟨A', c', w', hr, h3, h4, h5⟩ := run_appG (P := P) w k base t o.type e i z bytes ht hi hz hsize hby hzs hown (c2 := c2) h2 hsm hb8 hbase
  unfold Oper.wp execOp
  simp only [ho, resolve, invoke, builtin, Sem.run_bind, Sem.run_pure, Result.andThen_ok, List.map_toArray, List.map_cons, List.map_nil, hs, hx, hr]
  exact hK _ _ (h A' c' w' h3 h4 h5)
end Go.Proofs.YtmhabodijmnldaaDoor
