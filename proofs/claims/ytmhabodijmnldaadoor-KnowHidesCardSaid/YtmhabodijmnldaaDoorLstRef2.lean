/- Layer 9: the reference's Insert, Remove, Deal. -/
import Derived.Test.YtmhabodijmnldaaDoorLstRef
namespace Go.Proofs.YtmhabodijmnldaaDoor
open Go.RowKit Ex
set_option maxRecDepth 100000
/-- A list of the call's own, and nothing of what was there has turned. -/
structure OB (w : World) (A : Option Addr) (m c : Nat) (l : List Int) (W : World) : Prop where
  own : Own .i64 3 W w.heap.size A m c l
  b : Below w.heap.size w W
theorem OB.keep {w W W' : World} {A : Option Addr} {m c : Nat} {l : List Int} (h : OB w A m c l W) (hb : Below W.heap.size W W') : OB w A m c l W' := ⟨h.own.below hb (Nat.le_refl _), keepB hb h.b⟩
theorem wpList_push {ops : Array Oper} {rest : List Oper} {o : Oper} {a : Act} {Q : Exit → Act → World → Prop} (hgd : o.guard = none) {s x : Operand} (ho : o.op = .call { callee := .builtin .append, args := #[s, x], argTypes := #[23, 23] })
    {w W : World} {A : Option Addr} {m c : Nat} {l : List Int} {v : Int} (hs : a.eval s = .slice A m c) (h : OB w A m c l W) (hx : a.eval x = .slice (some ⟨W.heap.size, 0, none⟩) 1 1) (hm : m ≤ 2000000)
    (hK : ∀ A' c' W', OB w A' (m + 1) c' (l ++ [v]) W' → wpList Tryd.prog ops Q rest (a.put o.dst (.slice A' (m + 1) c')) W') :
    wpList Tryd.prog ops Q (o :: rest) a (W.alloc (.cells #[.int .i64 v] 3)) := by
  obtain ⟨i0, hi, hz0, hz1, hz2⟩ := info_parts info_int
  have hbs := h.b.size
  refine wpList_app hgd s x _ ho .i64 w.heap.size 3 i0 _ 8 Tryd.underlying23 hi hz0 hz1 hz2 rfl A m c l hs (h.own.alloc _) _ (some ⟨W.heap.size, 0, none⟩) 1 1 [v] hx (Nums.one _ _ _ _) (by omega) (by omega) (by simp; omega) ?_
  intro A' c' W' ho' hg'
  exact hK A' c' W' ⟨ho', (h.own.alloc _).belowGrown (h.b.alloc hbs _) (by simp; omega) hg'⟩
theorem insertRef_any (A : Option Addr) (n c : Nat) (l : List Int) (at_ : Nat) (x : Int) (w : World) (B : Nat) (hN : Nums .i64 w B A n l) (hB : B ≤ w.heap.size) (hn : n ≤ 1000000) (ha : at_ ≤ n) :
    Calls Tryd.prog 36 #[.slice A n c, .int .i64 (at_ : Int), .int .i64 x] w (OwnQ (insL l at_ x) w) := by
  have hln := hN.len
  have HN := Lib.hid hN
  clear hN
  go_enter Tryd.func36, Tryd.ntmps36
  go_upto_region 3 with fail
  have hO0 : OB w (some ⟨w.heap.size, 0, none⟩) 0 0 [] (w.alloc (.cells #[] 3)) := ⟨own_empty w _ (Nat.le_refl _), (Below.refl _ _).alloc (Nat.le_refl _) _⟩
  go_loopw [7, 8] (fun o i wr => ∃ (k m cc : Nat) (A' : Option Addr), i = .int .i64 ((k : Nat) : Int) ∧ o = .slice A' m cc ∧ k ≤ n + 1 ∧ OB w A' m cc (insK l at_ x k) wr) (fun _ i _ => n + 1 - (intOf i).toNat)
  case atStart => exact ⟨0, 0, 0, _, rfl, rfl, by omega, hO0⟩
  case round =>
    obtain ⟨k, m, cc, A4, rfl, rfl, hk, hO⟩ := hrel
    have hm : m ≤ n + 1 := by have h1 := insK_len l at_ x k; have h2 := hO.own.len; omega
    have HO := Lib.hid hO
    clear hO0
    by_cases hlt : k ≤ n
    · have hd : decide ((k : Int) ≤ (n : Int)) = true := by simp; omega
      have hst := insK_step l at_ x k (by omega) (by omega)
      by_cases e : k = at_
      · subst e
        have hb : ((k : Int) == (k : Int)) = true := by simp
        rw [if_pos rfl] at hst
        by_cases hkn : k < n
        · obtain ⟨a, rfl, hab, hc⟩ := HN.out.at_ (show k < l.length by omega)
          have hd2 : decide (k < n) = true := decide_eq_true hkn
          have g0 : (0 : Int) ≤ (k : Int) := by omega
          have g1 : (k : Int) < (n : Int) := by omega
          obtain ⟨y, hy⟩ : ∃ y, y = l[k]'(by omega) := ⟨_, rfl⟩
          rw [List.getElem?_eq_getElem (by omega), ← hy] at hst
          rw [← hy] at hc
          have HS := Lib.hid hst
          clear hst hy hkn
          go_upto_region 7 with (at_builtin; refine wpList_push rfl rfl rfl hO rfl (by omega) ?_; intro A5 c5 w5 hO5)
          have hc5 : w5.cell? (a.add k) = some (.int .i64 y) := (hO5.b.cell (by rw [addr_block]; omega)).trans hc
          clear hc hO
          go_wp2_with (at_builtin; refine wpList_push rfl rfl rfl hO5 rfl (by omega) ?_; intro A6 c6 w6 hO6)
          go_roundw
          case rel => exact ⟨k + 1, _, _, _, by go_num, rfl, by omega, by rw [HS.out, ← List.append_assoc]; exact hO6⟩
          case measure => simp [intOf]; omega
        · have hd2 : decide (k < n) = false := decide_eq_false hkn
          rw [List.getElem?_eq_none (by omega)] at hst
          have HS := Lib.hid hst
          clear hst hkn
          go_wp2_with (at_builtin; refine wpList_push rfl rfl rfl hO rfl (by omega) ?_; intro A5 c5 w5 hO5)
          go_roundw
          case rel => exact ⟨k + 1, _, _, _, by go_num, rfl, by omega, by rw [HS.out]; simpa using hO5⟩
          case measure => simp [intOf]; omega
      · have hb : ((k : Int) == (at_ : Int)) = false := by simp; omega
        rw [if_neg e] at hst
        have hkn2 : k ≤ l.length := by omega
        clear e
        by_cases hkn : k < n
        · obtain ⟨a, rfl, hab, hc0⟩ := HN.out.at_ (show k < l.length by omega)
          have hc := (HO.out.b.cell (by rw [addr_block]; omega)).trans hc0
          clear hc0
          have hd2 : decide (k < n) = true := decide_eq_true hkn
          have g0 : (0 : Int) ≤ (k : Int) := by omega
          have g1 : (k : Int) < (n : Int) := by omega
          obtain ⟨y, hy⟩ : ∃ y, y = l[k]'(by omega) := ⟨_, rfl⟩
          rw [List.getElem?_eq_getElem (by omega), ← hy] at hst
          rw [← hy] at hc
          have HS := Lib.hid hst
          clear hst hy hkn
          go_wp2_with (at_builtin; refine wpList_push rfl rfl rfl hO rfl (by omega) ?_; intro A5 c5 w5 hO5)
          go_roundw
          case rel => exact ⟨k + 1, _, _, _, by go_num, rfl, by omega, by rw [HS.out]; simpa using hO5⟩
          case measure => simp [intOf]; omega
        · have hd2 : decide (k < n) = false := decide_eq_false hkn
          rw [List.getElem?_eq_none (by omega)] at hst
          have HS := Lib.hid hst
          clear hst hkn
          go_wp2_with fail
          go_roundw
          case rel => exact ⟨k + 1, _, _, _, by go_num, rfl, by omega, by rw [HS.out]; simpa using HO.out⟩
          case measure => simp [intOf]; omega
    · obtain rfl : k = n + 1 := by omega
      have hd : decide (((n + 1 : Nat) : Int) ≤ (n : Int)) = false := by simp; omega
      have HE := Lib.hid (show insK l at_ x (n + 1) = insL l at_ x by rw [← hln]; exact insK_end l at_ x (by omega))
      go_wp2_with fail
      go_ret
      rw [← HE.out]
      exact ⟨_, _, _, rfl, HO.out.own, HO.out.b⟩
theorem removeRef_any (A : Option Addr) (n c : Nat) (l : List Int) (at_ : Nat) (w : World) (B : Nat) (hN : Nums .i64 w B A n l) (hB : B ≤ w.heap.size) (hn : n ≤ 1000000) (ha : at_ < n) :
    Calls Tryd.prog 35 #[.slice A n c, .int .i64 (at_ : Int)] w (OwnQ (rmL l at_) w) := by
  have hln := hN.len
  have HN := Lib.hid hN
  clear hN
  go_enter Tryd.func35, Tryd.ntmps35
  go_upto_region 3 with fail
  have hO0 : OB w (some ⟨w.heap.size, 0, none⟩) 0 0 [] (w.alloc (.cells #[] 3)) := ⟨own_empty w _ (Nat.le_refl _), (Below.refl _ _).alloc (Nat.le_refl _) _⟩
  go_loopw [5, 6] (fun o i wr => ∃ (k m cc : Nat) (A' : Option Addr), i = .int .i64 ((k : Nat) : Int) ∧ o = .slice A' m cc ∧ k ≤ n ∧ OB w A' m cc (rmK l at_ k) wr) (fun _ i _ => n - (intOf i).toNat)
  case atStart => exact ⟨0, 0, 0, _, rfl, rfl, by omega, hO0⟩
  case round =>
    obtain ⟨k, m, cc, A4, rfl, rfl, hk, hO⟩ := hrel
    have hm : m ≤ n := by have h1 := rmK_len l at_ k; have h2 := hO.own.len; omega
    have HO := Lib.hid hO
    clear hO0
    by_cases hlt : k < n
    · have hd : decide ((k : Int) < (n : Int)) = true := by simp; omega
      have hst := rmK_step l at_ k (by omega)
      by_cases e : k = at_
      · subst e
        have hb : ((k : Int) != (k : Int)) = false := by simp
        rw [if_pos rfl, List.append_nil] at hst
        have HS := Lib.hid hst
        clear hst
        go_wp2_with fail
        go_roundw
        case rel => exact ⟨k + 1, _, _, _, by go_num, rfl, by omega, by rw [HS.out]; exact HO.out⟩
        case measure => simp [intOf]; omega
      · have hb : ((k : Int) != (at_ : Int)) = true := by simp; omega
        rw [if_neg e] at hst
        obtain ⟨a, rfl, hab, hc0⟩ := HN.out.at_ (show k < l.length by omega)
        have hc := (HO.out.b.cell (by rw [addr_block]; omega)).trans hc0
        have g0 : (0 : Int) ≤ (k : Int) := by omega
        have g1 : (k : Int) < (n : Int) := by omega
        obtain ⟨y, hy⟩ : ∃ y, y = l[k]'(by omega) := ⟨_, rfl⟩
        rw [← hy] at hst hc
        have HS := Lib.hid hst
        clear hst hy e hc0
        go_wp2_with (at_builtin; refine wpList_push rfl rfl rfl hO rfl (by omega) ?_; intro A5 c5 w5 hO5)
        go_roundw
        case rel => exact ⟨k + 1, _, _, _, by go_num, rfl, by omega, by rw [HS.out]; exact hO5⟩
        case measure => simp [intOf]; omega
    · obtain rfl : k = n := by omega
      have hd : decide ((k : Int) < (k : Int)) = false := by simp
      have HE := Lib.hid (show rmK l at_ k = rmL l at_ by rw [← hln]; exact rmK_end l at_ (by omega))
      go_wp2_with fail
      go_ret
      rw [← HE.out]
      exact ⟨_, _, _, rfl, HO.out.own, HO.out.b⟩
end Go.Proofs.YtmhabodijmnldaaDoor
