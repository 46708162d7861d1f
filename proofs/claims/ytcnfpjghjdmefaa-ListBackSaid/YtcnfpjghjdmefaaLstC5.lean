/- Layer 9: the library's iterators over a list: Values and Backward, as what they hand to a range's rounds. -/
import Derived.Shelf.Abstract
import Derived.Shelf.RegionOpen
import Derived.WalkKit
import Derived.OwnWalkIn
import Derived.TacticsInMore
import Derived.LoopNIn
import Derived.LoopIn
import Derived.Sort.CutIn
import Derived.BigFrameIn
import Derived.Test.YtcnfpjghjdmefaaSeq
import Derived.Test.YtcnfpjghjdmefaaLstC4
namespace Go.Proofs.Ytcnfpjghjdmefaa
open Go.RowKit Go.Shelf Ex
attribute [local go_sem] Oper.semAt_some
set_option maxRecDepth 100000
/-- append of any slice of numbers to one of the call's own, within a fence. -/
theorem wpListIn_app {F : Fence} {n' : Nat} {P : Program} {w : World} {ops : Array Oper} {rest : List Oper} {o : Oper} {a : Act} {Q : Exit → Act → World → Prop} (hgd : o.guard = none) (s x : Operand) (t : TypeId)
    (ho : o.op = .call { callee := .builtin .append, args := #[s, x], argTypes := #[t, t] })
    (k : IntKind) (base : Nat) (e : TypeId) (i : TypeInfo) (z : Value) (bytes : Nat) (ht : P.underlying t = some (.slice e)) (hi : P.info? e = some i) (hz : i.zero = some z)
    (hsize : i.size = 1) (hby : i.bytes = bytes) (hzs : z.cells.size = 1)
    (A : Option Addr) (n c : Nat) (l : List Int) (hs : a.eval s = .slice A n c) (hown : Own k e w base A n c l)
    (B : Nat) (A2 : Option Addr) (m c2 : Nat) (l2 : List Int) (hx : a.eval x = .slice A2 m c2) (h2 : Nums k w B A2 m l2)
    (hsm : n + m ≤ 4294967296) (hb8 : bytes ≤ 8) (hbase : base ≤ w.heap.size)
    (h : ∀ A' c' w', Own k e w' base A' (n + m) c' (l ++ l2) → w.grownBy w' (Value.slice A n c).ownBlock → wpListIn F n' P ops Q rest (a.put o.dst (.slice A' (n + m) c')) w') :
    wpListIn F n' P ops Q (o :: rest) a w := by
  refine wpListIn_plain hgd fun K hK => ?_
  obtain ⟨A', c', w', hr, h3, h4⟩ := run_app (P := P) w k base t o.type e i z bytes ht hi hz hsize hby hzs hown (c2 := c2) h2 hsm hb8 hbase
  unfold Oper.wpIn
  refine ⟨?_, ?_⟩
  · simp [Oper.about, ho, resolve, Target.leads, Sem.run_pure]
  · rw [Oper.semAt_plain F _ _ (by rw [ho]; intro c hc'; cases hc')]
    simp [execOp, ho, resolve, invoke, builtin, hs, hx, hr, Result.andThen]
    exact hK _ _ (h A' c' w' h3 h4)
theorem Hands.mono {F : Fence} {n : Nat} {P : Program} {g : Nat} {lb : Array Value} {enc : Nat → Array Value → Array Value} {H : Nat → Nat → Array Value → World → Prop} {N : Nat} {B B' : World → Prop} (h : Hands F n P g lb enc H N B) (hB : ∀ W, B' W → B W) : Hands F n P g lb enc H N B' :=
  fun l J Jx W hl hJ => h l J Jx W hl (fun k A hA => ⟨hB _ (hJ k A hA).1, (hJ k A hA).2⟩)
/-- The box of the slice, and what it reads as. -/
structure Seen (w : World) (bx : Nat) (A : Option Addr) (n c : Nat) (l : List Int) : Prop where
  box : w.heap[bx]? = some (.cells #[.slice A n c] 22 (0, 0))
  N : Nums .i64 w w.heap.size A n l
theorem Seen.keep {w w' : World} {bx : Nat} {A : Option Addr} {n c : Nat} {l : List Int} (h : Seen w bx A n c l) (hb : Below w.heap.size w w') : Seen w' bx A n c l :=
  ⟨(hb.block bx (Array.getElem?_eq_some_iff.1 h.box).1).trans h.box, (h.N.below hb).more hb.size⟩
set_option linter.unusedSimpArgs false in
set_option maxHeartbeats 1000000 in
theorem values_hands {bx : Nat} {A : Option Addr} {n c : Nat} {l : List Int} (hln : l.length = n) (hn : n ≤ 1000000) :
    Hands Fence.wide 5 Try.prog 34 #[.pointer (some ⟨bx, 0, none⟩)] (fun k _ => #[.int .i64 (l.getD k 0)]) (fun _ _ _ _ => True) n (fun W => Seen W bx A n c l) := by
  intro lp J Jx W hl hJB hJg hJxg hY h0
  have cb : W.cell? ⟨bx, 0, none⟩ = some (.slice A n c) := by rw [cell_of_row W bx 0 _ _ _ (hJB 0 W h0).1.box]; rfl
  refine callsIn_of_wp Try.func34 rfl trivial ?_ rfl
  simp only [Try.ntmps34, List.size_toArray, List.length_cons, List.length_nil, Nat.reduceAdd, Nat.reduceSub, Array.replicate_succ, Array.replicate_zero, List.push_toArray, List.append_toArray, List.nil_append, List.cons_append]
  gi_upto_region 1 with fail
  clear cb
  gi_loopw [7] (fun i wr => ∃ k : Nat, i = .int .i64 ((k : Nat) : Int) ∧ k ≤ n ∧ J k wr) (fun i _ => n - (intOf i).toNat)
  case atStart => exact ⟨0, rfl, by omega, h0⟩
  case round =>
    obtain ⟨k, rfl, hk, hJ⟩ := hrel
    have hlr := (hJB k wr hJ).2
    by_cases hlt : k < n
    · have d0 : decide ((k : Int) < (n : Int)) = true := by simp; omega
      obtain ⟨a, rfl, _, hc⟩ := (hJB k wr hJ).1.N.at_ (show k < l.length by omega)
      obtain ⟨v, hv⟩ : ∃ v, v = l.getD k 0 := ⟨_, rfl⟩
      rw [show l[k]'(by omega) = v by rw [hv, List.getD_eq_getElem?_getD, List.getElem?_eq_getElem (by omega)]; rfl] at hc
      have g0 : (0 : Int) ≤ (k : Int) := by omega
      have g1 : (k : Int) < (n : Int) := by omega
      obtain ⟨fn, tmps, assign, body, hy, hR⟩ := hY k #[] wr hlt hJ trivial
      rw [← hv] at hy
      clear hv
      gi_wp2_with fail
      refine hR.mono ?_
      rintro e W2 (⟨rfl, hJ2⟩ | ⟨rfl, hJx⟩)
      · gi_wp2_with fail
        go_roundw
        case rel => exact ⟨k + 1, by go_num, by omega, hJ2⟩
        case measure => simp [intOf]; omega
      · gi_wp2_with fail
        refine bodyPost_ret (results_none rfl _ _ _) rfl ?_
        exact ⟨⟨_, rfl⟩, .inr hJx⟩
    · obtain rfl : k = n := by omega
      have d0 : decide ((k : Int) < (k : Int)) = false := by simp
      gi_wp2_with fail
      go_end0
      exact ⟨⟨_, rfl⟩, .inl hJ⟩
theorem values_any (A : Option Addr) (n c : Nat) (l : List Int) (w : World) (hN : Nums .i64 w w.heap.size A n l) (hn : n ≤ 1000000) :
    Calls Try.prog 27 #[.slice A n c] w fun e w' => Below w.heap.size w w' ∧ ∃ (gf : Nat) (lb : Array Value), e = .returned (.func (.func gf) #[] lb) ∧ (∀ args w, (callFunc gf args).run Try.prog w = .ok (.enter gf args) w) ∧
      Hands Fence.wide 5 Try.prog gf lb (fun k _ => #[.int .i64 (l.getD k 0)]) (fun _ _ _ _ => True) n (fun W => Seen W w.heap.size A n c l) ∧ Seen w' w.heap.size A n c l := by
  have hb := below_alloc (w := w) (.cells #[.slice A n c] 22)
  have hS : Seen (w.alloc (.cells #[.slice A n c] 22)) w.heap.size A n c l := ⟨heap_alloc_new _ _, (hN.below hb).more hb.size⟩
  go_enter Try.func27, Try.ntmps27
  go_wp2_with fail
  go_ret
  exact ⟨hb, 34, _, rfl, enters_of Try.func34 (by kernel_rfl) rfl, values_hands hN.len hn, hS⟩
set_option linter.unusedSimpArgs false in
set_option maxHeartbeats 1000000 in
theorem backward_hands {bx : Nat} {A : Option Addr} {n c : Nat} {l : List Int} (hln : l.length = n) (hn : n ≤ 1000000) :
    Hands Fence.wide 5 Try.prog 35 #[.pointer (some ⟨bx, 0, none⟩)] (fun k _ => #[.int .i64 ((n : Int) - 1 - (k : Int)), .int .i64 (l.reverse.getD k 0)]) (fun _ _ _ _ => True) n (fun W => Seen W bx A n c l) := by
  intro lp J Jx W hl hJB hJg hJxg hY h0
  have cb : W.cell? ⟨bx, 0, none⟩ = some (.slice A n c) := by rw [cell_of_row W bx 0 _ _ _ (hJB 0 W h0).1.box]; rfl
  have e1 : IntKind.i64.wrap ((n : Int) - 1) = (n : Int) - 1 := i64_in (by omega) (by omega)
  refine callsIn_of_wp Try.func35 rfl trivial ?_ rfl
  simp only [Try.ntmps35, List.size_toArray, List.length_cons, List.length_nil, Nat.reduceAdd, Nat.reduceSub, Array.replicate_succ, Array.replicate_zero, List.push_toArray, List.append_toArray, List.nil_append, List.cons_append]
  gi_upto_region 1 with fail
  clear cb
  gi_loopw [3] (fun i wr => ∃ (k : Nat) (j : Int), i = .int .i64 j ∧ j = (n : Int) - 1 - (k : Int) ∧ k ≤ n ∧ J k wr) (fun i _ => (intOf i + 1).toNat)
  case atStart => exact ⟨0, _, rfl, by omega, by omega, h0⟩
  case round =>
    obtain ⟨k, j, rfl, hj, hk, hJ⟩ := hrel
    have hlr := (hJB k wr hJ).2
    by_cases hlt : k < n
    · obtain ⟨p, hp⟩ : ∃ p : Nat, p = n - 1 - k := ⟨_, rfl⟩
      obtain rfl : j = (p : Int) := by omega
      have d0 : decide (0 ≤ (p : Int)) = true := by simp
      have hS := (hJB k wr hJ).1
      obtain ⟨a, rfl, _, hc⟩ := hS.N.at_ (show p < l.length by omega)
      have cb : wr.cell? ⟨bx, 0, none⟩ = some (.slice (some a) n c) := by rw [cell_of_row wr bx 0 _ _ _ hS.box]; rfl
      obtain ⟨v, hv⟩ : ∃ v, v = l.reverse.getD k 0 := ⟨_, rfl⟩
      rw [show l[p]'(by omega) = v by
        rw [hv, List.getD_eq_getElem?_getD, List.getElem?_reverse (by omega), List.getElem?_eq_getElem (by omega), Option.getD_some]
        congr 1; omega] at hc
      have g0 : (0 : Int) ≤ (p : Int) := by omega
      have g1 : (p : Int) < (n : Int) := by omega
      obtain ⟨fn, tmps, assign, body, hy, hR⟩ := hY k #[] wr hlt hJ trivial
      rw [← hv, ← hj] at hy
      have e2 : IntKind.i64.wrap ((p : Int) - 1) = (p : Int) - 1 := i64_in (by omega) (by omega)
      have HP := Lib.hid hp
      clear hv hp hj hS
      gi_wp2_with fail
      refine hR.mono ?_
      rintro e W2 (⟨rfl, hJ2⟩ | ⟨rfl, hJx⟩)
      · gi_wp2_with fail
        go_roundw
        case rel => exact ⟨k + 1, _, rfl, by have := HP.out; omega, by omega, hJ2⟩
        case measure => simp [intOf]
      · gi_wp2_with fail
        refine bodyPost_ret (results_none rfl _ _ _) rfl ?_
        exact ⟨⟨_, rfl⟩, .inr hJx⟩
    · obtain rfl : k = n := by omega
      have d0 : decide (0 ≤ j) = false := by simp; omega
      clear hj
      gi_wp2_with fail
      go_end0
      exact ⟨⟨_, rfl⟩, .inl hJ⟩
theorem backward_any (A : Option Addr) (n c : Nat) (l : List Int) (w : World) (hN : Nums .i64 w w.heap.size A n l) (hn : n ≤ 1000000) :
    Calls Try.prog 30 #[.slice A n c] w fun e w' => Below w.heap.size w w' ∧ ∃ (gf : Nat) (lb : Array Value), e = .returned (.func (.func gf) #[] lb) ∧ (∀ args w, (callFunc gf args).run Try.prog w = .ok (.enter gf args) w) ∧
      Hands Fence.wide 5 Try.prog gf lb (fun k _ => #[.int .i64 ((n : Int) - 1 - (k : Int)), .int .i64 (l.reverse.getD k 0)]) (fun _ _ _ _ => True) n (fun W => Seen W w.heap.size A n c l) ∧ Seen w' w.heap.size A n c l := by
  have hb := below_alloc (w := w) (.cells #[.slice A n c] 22)
  have hS : Seen (w.alloc (.cells #[.slice A n c] 22)) w.heap.size A n c l := ⟨heap_alloc_new _ _, (hN.below hb).more hb.size⟩
  go_enter Try.func30, Try.ntmps30
  go_wp2_with fail
  go_ret
  exact ⟨hb, 35, _, rfl, enters_of Try.func35 (by kernel_rfl) rfl, backward_hands hN.len hn, hS⟩
end Go.Proofs.Ytcnfpjghjdmefaa
