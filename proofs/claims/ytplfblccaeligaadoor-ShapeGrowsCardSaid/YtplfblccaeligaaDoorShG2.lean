/- Layer 6: which numbers and whom an effect is about: the reference's ranges, fits, objects. Layer 6: which effects are right: the reference's check. Contracts of mulligannum: an error's number, the same bytes, the same numbers. An error's number, and whether it is that one. Layer 6: the reference's Check; an error's number. Layer 7: which cards are right. Layer 8: what the calls on cards by number, on names and decks are to answer. Layer 8: rows of numbers that a call builds: a slice of slices of literals. Layer 6: the contract of effect's Copy. Layer 7: abilities that a call makes: a list of abilities that is appended to, each reading in blocks of its own. -/
import Derived.Test.YtplfblccaeligaaDoorTreeBase
import Derived.Test.YtplfblccaeligaaDoorRows
import Derived.Test.YtplfblccaeligaaDoorShG1
import Derived.Test.YtplfblccaeligaaDoorSl
import Derived.WalkSpells
import Derived.WalkLawsBesides
import Derived.Lib.Hide
import Derived.BigQuiet
import Derived.Deep.QuietTactic
import Derived.Test.YtplfblccaeligaaDoorErr
namespace Go.Proofs.YtplfblccaeligaaDoor
open Go.RowKit Ex
namespace Ex
def ObjC (op : Int) : Prop := (6 ≤ op ∧ op ≤ 8) ∨ (10 ≤ op ∧ op ≤ 13) ∨ (23 ≤ op ∧ op ≤ 25)
instance (op : Int) : Decidable (ObjC op) := by unfold ObjC; infer_instance
def nMost (op : Int) : Int := if op = 20 then 3 else if op = 22 then 2 else if op = 23 ∨ op = 25 then 255 else 99
def mLeast (op : Int) : Int := if op = 14 then 112 else 0
def mMost (op : Int) : Int := if op = 15 then 5 else if op = 14 then 119 else 99
/-- The numbers are as they may be. -/
def RangesC (op n m who : Int) : Prop := (0 ≤ who ∧ who ≤ 4) ∧ (if op = 10 ∨ op = 24 then (-99 ≤ n ∧ n ≤ 99) ∧ (-99 ≤ m ∧ m ≤ 99) else (0 ≤ n ∧ n ≤ nMost op) ∧ (mLeast op ≤ m ∧ m ≤ mMost op))
instance (op n m who : Int) : Decidable (RangesC op n m who) := by unfold RangesC; infer_instance
/-- Whom it is about fits. -/
def FitsC (op who tg : Int) : Prop :=
  if op = 0 ∨ (20 ≤ op ∧ op ≤ 22) then who = 0
  else if op = 1 then who = 0 ∨ who = 1 ∨ who = 4 ∨ (who = 2 ∧ 1 ≤ tg ∧ tg ≤ 3)
  else if op = 9 then who = 2 ∧ tg = 4
  else if ObjC op then who = 3 ∨ (who = 2 ∧ (tg = 1 ∨ tg = 5))
  else who = 0 ∨ who = 1 ∨ who = 4 ∨ (who = 2 ∧ tg = 2)
instance (op who tg : Int) : Decidable (FitsC op who tg) := by unfold FitsC; infer_instance
end Ex
end Go.Proofs.YtplfblccaeligaaDoor
namespace Go.Proofs.YtplfblccaeligaaDoor
open Go.RowKit Ex
namespace Ex
def headOp : List ET → Int
  | [] => 0
  | t :: _ => t.op
def headWho : List ET → Int
  | [] => 0
  | t :: _ => t.who
/-- It has as many within as it may, and such ones. -/
def FormC (op : Int) (l : List ET) : Prop :=
  if op = 20 then l.length = 1 ∧ (headOp l = 1 ∨ ObjC (headOp l))
  else if op = 21 then 1 ≤ l.length ∧ l.length ≤ 8
  else if op = 22 then 1 ≤ l.length ∧ l.length ≤ 2
  else l.length = 0
instance (op : Int) (l : List ET) : Decidable (FormC op l) := by unfold FormC; infer_instance
mutual
/-- The number of what is wrong with it, where it stands so deep. -/
def chkT : ET → Int → Nat → Int
  | .node op n m who l, tg, dp =>
    if ¬ (0 ≤ op ∧ op ≤ 25) then 6
    else if 8 < dp then 3
    else if ¬ RangesC op n m who then 1
    else if ¬ FitsC op who tg then 11
    else if ¬ FormC op l then 2
    else if op = 20 then (if chkL l 1 (dp + 1) ≠ 0 then chkL l 1 (dp + 1) else if headWho l ≠ 2 then 11 else 0)
    else chkL l tg (dp + 1)
def chkL : List ET → Int → Nat → Int
  | [], _, _ => 0
  | t :: l, tg, dp => if chkT t tg dp ≠ 0 then chkT t tg dp else chkL l tg dp
end
theorem chkL_take {tg : Int} {dp : Nat} : ∀ (l : List ET) (k : Nat) (t : ET), chkL (l.take k) tg dp = 0 → l[k]? = some t → chkL (l.take (k + 1)) tg dp = chkT t tg dp
  | [], k, t, _, h => by simp at h
  | x :: l, 0, t, _, h => by
    simp at h; subst h
    simp only [List.take_succ_cons, List.take_zero, chkL]
    by_cases e : chkT x tg dp = 0
    · rw [if_neg (by simpa using e), e]
    · rw [if_pos e]
  | x :: l, k + 1, t, h0, h => by
    simp only [List.take_succ_cons, chkL] at h0 ⊢
    by_cases e : chkT x tg dp = 0
    · rw [if_neg (by simpa using e)] at h0
      rw [if_neg (by simpa using e)]
      exact chkL_take l k t h0 (by simpa using h)
    · rw [if_pos e] at h0; exact absurd h0 e
theorem chkL_stop {tg : Int} {dp : Nat} : ∀ (l : List ET) (k : Nat) (t : ET), chkL (l.take k) tg dp = 0 → l[k]? = some t → chkT t tg dp ≠ 0 → chkL l tg dp = chkT t tg dp
  | [], k, t, _, h, _ => by simp at h
  | x :: l, 0, t, _, h, hn => by
    simp at h; subst h
    simp only [chkL]; rw [if_pos hn]
  | x :: l, k + 1, t, h0, h, hn => by
    simp only [List.take_succ_cons, chkL] at h0 ⊢
    by_cases e : chkT x tg dp = 0
    · rw [if_neg (by simpa using e)] at h0
      rw [if_neg (by simpa using e)]
      exact chkL_stop l k t h0 (by simpa using h) hn
    · rw [if_pos e] at h0; exact absurd h0 e
mutual
theorem chkT_range : ∀ (t : ET) (tg : Int) (dp : Nat), 0 ≤ chkT t tg dp ∧ chkT t tg dp ≤ 11
  | .node op n m who l, tg, dp => by
    have h1 := chkL_range l 1 (dp + 1)
    have h2 := chkL_range l tg (dp + 1)
    simp only [chkT]
    repeat' split
    all_goals omega
theorem chkL_range : ∀ (l : List ET) (tg : Int) (dp : Nat), 0 ≤ chkL l tg dp ∧ chkL l tg dp ≤ 11
  | [], _, _ => by simp [chkL]
  | t :: l, tg, dp => by
    have h1 := chkT_range t tg dp
    have h2 := chkL_range l tg dp
    simp only [chkL]
    split <;> omega
end
end Ex
end Go.Proofs.YtplfblccaeligaaDoor
namespace Go.Proofs.YtplfblccaeligaaDoor
open Go.RowKit Wx
theorem num_nil (w : World) : Calls Tryd.prog 14 #[.nilIface] w fun e w' => e = .returned (.int .i64 0) ∧ w = w' := by
  go_enter Tryd.func14, Tryd.ntmps14
  go_wp2_with fail
  go_ret
  exact ⟨rfl, rfl⟩
theorem num_err (k : Int) (hk : k ≠ 0) (w : World) : Calls Tryd.prog 14 #[.iface 72 (.int .i64 k)] w fun e w' => e = .returned (.int .i64 k) ∧ w = w' := by
  have h1 : (k != 0) = true := by simpa using hk
  have ht : ∀ (w : World), (Instr.typeAssert (.iface 72 (.int .i64 k)) 40 72 true).run Tryd.prog w = .ok (.tuple #[.int .i64 k, .bool true]) w := fun _ => by kernel_rfl
  clear hk
  go_enter Tryd.func14, Tryd.ntmps14
  go_wp2_with fail
  go_ret
  exact ⟨rfl, rfl⟩
theorem ints_take {l1 l2 : List Int} {k : Nat} (h1 : k < l1.length) (h2 : k < l2.length) (h : l1.take k = l2.take k) (he : l1[k] = l2[k]) : l1.take (k + 1) = l2.take (k + 1) := by
  rw [List.take_succ_eq_append_getElem h1, List.take_succ_eq_append_getElem h2, h, he]
set_option maxHeartbeats 400000 in
theorem ints_any (A1 A2 : Option Addr) (n1 c1 n2 c2 : Nat) (l1 l2 : List Int) (w : World) (B1 B2 : Nat) (h1 : Nums .i64 w B1 A1 n1 l1) (h2 : Nums .i64 w B2 A2 n2 l2) (hn1 : n1 ≤ 1000000000) (hn2 : n2 ≤ 1000000000) :
    Calls Tryd.prog 19 #[.slice A1 n1 c1, .slice A2 n2 c2] w fun e w' => e = .returned (.bool (decide (l1 = l2))) ∧ ∃ m, w' = w.drewN m := by
  obtain rfl := h1.len
  obtain rfl := h2.len
  have H1 := Lib.hid h1
  have H2 := Lib.hid h2
  clear h1 h2
  by_cases hne : l1.length = l2.length
  · have hb : ((l1.length : Int) != (l2.length : Int)) = false := by rw [bne_eq_false_iff_eq]; omega
    have HL := Lib.hid hne
    have hle : l1.length ≤ l2.length := by omega
    clear hne
    go_enter Tryd.func19, Tryd.ntmps19
    go_wp2_with fail
    go_loopw [13] (fun i wr => ∃ k m : Nat, i = .int .i64 ((k : Nat) : Int) ∧ k ≤ l1.length ∧ wr = w.drewN m ∧ Hid (l1.take k = l2.take k)) (fun i _ => l1.length - (intOf i).toNat)
    case atStart => exact ⟨0, 0, rfl, by omega, rfl, rfl⟩
    case round =>
      obtain ⟨k, m, rfl, hk, rfl, HT⟩ := hrel
      by_cases hlt : k < l1.length
      · obtain ⟨a1, e1, _, g1⟩ := H1.out.at_ hlt
        obtain ⟨a2, e2, _, g2⟩ := H2.out.at_ (show k < l2.length by omega)
        have HN := ints_take hlt (show k < l2.length by omega) HT.out
        obtain ⟨x, hx⟩ : ∃ x, x = l1[k] := ⟨_, rfl⟩
        obtain ⟨y, hy⟩ : ∃ y, y = l2[k]'(show k < l2.length by omega) := ⟨_, rfl⟩
        rw [← hx] at g1
        rw [← hy] at g2
        subst e1 e2
        have b0 : (0 : Int) ≤ (k : Int) := by omega
        have b1 : (k : Int) < (l1.length : Int) := by omega
        have b2 : (k : Int) < (l2.length : Int) := by omega
        have HN := Lib.hid HN
        have HX := Lib.hid hx
        have HY := Lib.hid hy
        clear hx hy
        by_cases hxy : x = y
        · have hb2 : (x != y) = false := by simpa using hxy
          have HXY := Lib.hid hxy
          clear hxy
          go_wp2_with fail
          go_quiet (fail)
          go_wp2_with fail
          go_roundw
          case rel => exact ⟨k + 1, _, by go_num, by omega, rfl, HN.out (by rw [← HX.out, ← HY.out]; exact HXY.out)⟩
          case measure => simp [intOf]; omega
        · have hb2 : (x != y) = true := by simpa using hxy
          have HD : Hid (false = decide (l1 = l2)) := by
            show _ = _
            rw [eq_comm, decide_eq_false_iff_not]; intro e; apply hxy
            rw [HX.out, HY.out]; subst e; rfl
          clear hxy
          go_wp2_with fail
          go_quiet (fail)
          go_wp2_with fail
          go_ret
          rw [← HD.out]
          exact ⟨rfl, m + nq, by rw [World.drewN_drewN]⟩
      · have HD : Hid (true = decide (l1 = l2)) := by
          show _ = _
          have h := HT.out
          have h5 := HL.out
          rw [List.take_of_length_le (by omega), List.take_of_length_le (by omega)] at h
          rw [eq_comm, decide_eq_true_iff]; exact h
        go_wp2_with fail
        go_ret
        rw [← HD.out]
        exact ⟨rfl, m, rfl⟩
  · have hb : ((l1.length : Int) != (l2.length : Int)) = true := by rw [bne_iff_ne]; omega
    have HD : Hid (false = decide (l1 = l2)) := by
      show _ = _
      rw [eq_comm, decide_eq_false_iff_not]; intro e; exact hne (by rw [e])
    clear hne
    go_enter Tryd.func19, Tryd.ntmps19
    go_wp2_with fail
    go_ret
    rw [← HD.out]
    exact ⟨rfl, 0, rfl⟩
end Go.Proofs.YtplfblccaeligaaDoor
namespace Go.Proofs.YtplfblccaeligaaDoor
open Go.RowKit
theorem num_by (k : Int) (w : World) : Calls Tryd.prog 14 #[errV k] w fun e w' => e = .returned (.int .i64 k) ∧ w = w' := by
  unfold errV
  split
  · rename_i h; subst h; exact num_nil w
  · rename_i h; exact num_err k h w
end Go.Proofs.YtplfblccaeligaaDoor
namespace Go.Proofs.YtplfblccaeligaaDoor
open Go.RowKit Ex
/-- The number of what is wrong with an effect. -/
def chkTop (t : ET) (tg : Int) : Int := if ¬ (0 ≤ tg ∧ tg ≤ 5) then 6 else chkT t tg 1
end Go.Proofs.YtplfblccaeligaaDoor
namespace Go.Proofs.YtplfblccaeligaaDoor
open Go.RowKit Ex Mx
namespace Ex
instance (f : Nat → Int) : Decidable (GoodC f) := by unfold GoodC; infer_instance
instance (f : Nat → Int) (b : Bool) : Decidable (CostC f b) := by unfold CostC; infer_instance
def KindC (c : CardT) : Prop := (0 ≤ c.kind ∧ c.kind ≤ 3) ∧ (0 ≤ c.colour ∧ c.colour ≤ 5)
instance (c : CardT) : Decidable (KindC c) := by unfold KindC; infer_instance
def BodyC (c : CardT) : Prop := if c.kind = 1 then (0 ≤ c.power ∧ c.power ≤ 99) ∧ (1 ≤ c.tough ∧ c.tough ≤ 99) ∧ (0 ≤ c.says ∧ c.says ≤ 255) else c.power = 0 ∧ c.tough = 0 ∧ c.says = 0
instance (c : CardT) : Decidable (BodyC c) := by unfold BodyC; infer_instance
def ShapeC (c : CardT) : Prop := (c.fast = true → c.kind = 2 ∨ c.kind = 1) ∧ (if c.kind = 2 then (usesL c.abs 0).length = 1 ∧ c.abs.length = 1 else (usesL c.abs 0).length = 0 ∧ c.abs.length ≤ 4)
instance (c : CardT) : Decidable (ShapeC c) := by unfold ShapeC; infer_instance
def TapC (a : AbT) : Prop := (a.when_ = 6 → a.tap = true) ∧ (a.when_ ≠ 6 → a.when_ ≠ 1 → a.tap = false)
instance (a : AbT) : Decidable (TapC a) := by unfold TapC; infer_instance
def TargC (a : AbT) : Prop := (0 ≤ a.target ∧ a.target ≤ 5) ∧ (a.target = 0 ∨ a.when_ = 0 ∨ a.when_ = 1)
instance (a : AbT) : Decidable (TargC a) := by unfold TargC; infer_instance
def MtC (a : AbT) : Prop := a.when_ = 6 → a.do_.op = 15 ∧ a.do_.who = 0
instance (a : AbT) : Decidable (MtC a) := by unfold MtC; infer_instance
def StC (a : AbT) : Prop := a.when_ = 5 → a.do_.op = 20 ∧ (headOp a.do_.subs = 10 ∨ headOp a.do_.subs = 23 ∨ headOp a.do_.subs = 24 ∨ headOp a.do_.subs = 25)
instance (a : AbT) : Decidable (StC a) := by unfold StC; infer_instance
/-- The number of what is wrong with an ability. -/
def chkA (a : AbT) : Int :=
  if ¬ (0 ≤ a.when_ ∧ a.when_ ≤ 6) then 6
  else if ¬ CostC a.cost (a.when_ != 1) then 10
  else if ¬ TapC a then 2
  else if ¬ TargC a then 11
  else if chkTop a.do_ a.target ≠ 0 then chkTop a.do_ a.target
  else if ¬ MtC a then 2
  else if ¬ StC a then 2
  else 0
def chkAs : List AbT → Int
  | [] => 0
  | a :: l => if chkA a ≠ 0 then chkA a else chkAs l
/-- The number of what is wrong with a card. -/
def chkC (c : CardT) : Int :=
  if ¬ KindC c then 6
  else if ¬ CostC c.cost (c.kind == 0) then 10
  else if ¬ BodyC c then 1
  else if ¬ ShapeC c then 2
  else chkAs c.abs
theorem chkAs_take : ∀ (l : List AbT) (k : Nat) (a : AbT), chkAs (l.take k) = 0 → l[k]? = some a → chkAs (l.take (k + 1)) = chkA a
  | [], k, a, _, h => by simp at h
  | x :: l, 0, a, _, h => by
    simp at h; subst h
    simp only [List.take_succ_cons, List.take_zero, chkAs]
    by_cases e : chkA x = 0
    · rw [if_neg (by simpa using e), e]
    · rw [if_pos e]
  | x :: l, k + 1, a, h0, h => by
    simp only [List.take_succ_cons, chkAs] at h0 ⊢
    by_cases e : chkA x = 0
    · rw [if_neg (by simpa using e)] at h0
      rw [if_neg (by simpa using e)]
      exact chkAs_take l k a h0 (by simpa using h)
    · rw [if_pos e] at h0; exact absurd h0 e
theorem chkAs_stop : ∀ (l : List AbT) (k : Nat) (a : AbT), chkAs (l.take k) = 0 → l[k]? = some a → chkA a ≠ 0 → chkAs l = chkA a
  | [], k, a, _, h, _ => by simp at h
  | x :: l, 0, a, _, h, hn => by
    simp at h; subst h
    simp only [chkAs]; rw [if_pos hn]
  | x :: l, k + 1, a, h0, h, hn => by
    simp only [List.take_succ_cons, chkAs] at h0 ⊢
    by_cases e : chkA x = 0
    · rw [if_neg (by simpa using e)] at h0
      rw [if_neg (by simpa using e)]
      exact chkAs_stop l k a h0 (by simpa using h) hn
    · rw [if_pos e] at h0; exact absurd h0 e
theorem chkAs_all : ∀ (l : List AbT), chkAs l = 0 → ∀ (i : Nat) (a : AbT), l[i]? = some a → chkA a = 0
  | [], _, i, a, h => by simp at h
  | x :: l, h, 0, a, hi => by
    simp at hi; subst hi
    simp only [chkAs] at h
    by_cases e : chkA x = 0
    · exact e
    · rw [if_pos e] at h; exact absurd h e
  | x :: l, h, i + 1, a, hi => by
    simp only [chkAs] at h
    by_cases e : chkA x = 0
    · rw [if_neg (by simpa using e)] at h
      exact chkAs_all l h i a (by simpa using hi)
    · rw [if_pos e] at h; exact absurd h e
/-- A right All has one within. -/
theorem chk_all {t : ET} {tg : Int} (h : chkTop t tg = 0) (ho : t.op = 20) : ∃ x, t.subs = [x] := by
  cases t with
  | node op n m who l =>
    have ho : op = 20 := ho
    subst ho
    unfold chkTop at h
    split at h
    · omega
    · simp only [chkT] at h
      rw [if_neg (by omega), if_neg (by omega)] at h
      split at h
      · omega
      · split at h
        · omega
        · split at h
          · omega
          · rename_i hf
            have hf : FormC 20 l := by
              by_cases q : FormC 20 l
              · exact q
              · exact absurd q hf
            unfold FormC at hf
            rw [if_pos rfl] at hf
            match l, hf.1 with
            | [x], _ => exact ⟨x, rfl⟩
end Ex
end Go.Proofs.YtplfblccaeligaaDoor
namespace Go.Proofs.YtplfblccaeligaaDoor
open Go.RowKit Ex Mx
namespace Ex
/-- How often x stands in l. -/
def cnt (x : Int) : List Int → Nat
  | [] => 0
  | y :: l => if y = x then cnt x l + 1 else cnt x l
theorem cnt_len (x : Int) : ∀ l, cnt x l ≤ l.length
  | [] => Nat.le_refl _
  | y :: l => by
    have := cnt_len x l
    simp only [cnt, List.length_cons]
    split <;> omega
theorem cnt_snoc (x y : Int) : ∀ l, cnt x (l ++ [y]) = if y = x then cnt x l + 1 else cnt x l
  | [] => by simp [cnt]
  | z :: l => by
    simp only [List.cons_append, cnt, cnt_snoc x y l]
    split <;> split <;> rfl
/-- The number of what is wrong with a deck. -/
def deckL (l : List Int) : Int :=
  if 100 < l.length then 19
  else if ∃ x ∈ l, x < 0 ∨ 111 < x then 4
  else if ∃ x ∈ l, 5 ≤ x ∧ 4 < cnt x l then 8
  else 0
theorem deck_many {l : List Int} (h : 100 < l.length) : deckL l = 19 := if_pos h
theorem deck_none {l : List Int} (h : ¬ 100 < l.length) {x : Int} (hm : x ∈ l) (hx : x < 0 ∨ 111 < x) : deckL l = 4 := by
  unfold deckL; rw [if_neg h, if_pos ⟨x, hm, hx⟩]
theorem deck_twice {l : List Int} (h : ¬ 100 < l.length) (h1 : ∀ x ∈ l, 0 ≤ x ∧ x ≤ 111) {x : Int} (hm : x ∈ l) (hx : 5 ≤ x ∧ 4 < cnt x l) : deckL l = 8 := by
  unfold deckL; rw [if_neg h, if_neg (fun ⟨y, hy, hq⟩ => by have := h1 y hy; omega), if_pos ⟨x, hm, hx⟩]
theorem deck_fine {l : List Int} (h : ¬ 100 < l.length) (h1 : ∀ x ∈ l, 0 ≤ x ∧ x ≤ 111) (h2 : ∀ x ∈ l, ¬ (5 ≤ x ∧ 4 < cnt x l)) : deckL l = 0 := by
  unfold deckL; rw [if_neg h, if_neg (fun ⟨y, hy, hq⟩ => by have := h1 y hy; omega), if_neg (fun ⟨y, hy, hq⟩ => h2 y hy hq)]
theorem upto_all {p : Int → Prop} {l : List Int} {k : Nat} (h : ∀ (i : Nat) (x : Int), i < k → l[i]? = some x → p x) (hk : l.length ≤ k) : ∀ x ∈ l, p x := fun x hx => by
  obtain ⟨i, hi⟩ := List.mem_iff_getElem?.1 hx
  exact h i x (by have := (List.getElem?_eq_some_iff.1 hi).1; omega) hi
end Ex
end Go.Proofs.YtplfblccaeligaaDoor
namespace Go.Proofs.YtplfblccaeligaaDoor
open Go.RowKit Ex Mx
/-- A literal's value, and its number. -/
def litV : Operand → Value
  | .const v => v
  | _ => undef
def litI : Operand → Int
  | .const (.int _ x) => x
  | _ => 0
def rowOf (ps : Array (Nat × Operand)) : List Int := ps.toList.map fun p => litI p.2
/-- Values that are slices of these rows. -/
def RowsAcc (w : World) (base : Nat) (vals : List Value) (rows : List (List Int)) : Prop := vals.length = rows.length ∧
  ∀ (i : Nat) (r : List Int) (v : Value), rows[i]? = some r → vals[i]? = some v → ∃ b, base ≤ b ∧ v = .slice (some ⟨b, 0, none⟩) r.length r.length ∧ Nums .i64 w w.heap.size (some ⟨b, 0, none⟩) r.length r
theorem RowsAcc.nil (w : World) (base : Nat) : RowsAcc w base [] [] := ⟨rfl, fun i r v h => by simp at h⟩
theorem RowsAcc.below {w w' : World} {base : Nat} {vals : List Value} {rows : List (List Int)} (h : RowsAcc w base vals rows) (hb : Below w.heap.size w w') : RowsAcc w' base vals rows :=
  ⟨h.1, fun i r v hi hv => by obtain ⟨b, hbb, e, hN⟩ := h.2 i r v hi hv; exact ⟨b, hbb, e, (hN.below hb).more hb.size⟩⟩
theorem RowsAcc.snoc {w w' : World} {base : Nat} {vals : List Value} {rows : List (List Int)} (h : RowsAcc w base vals rows) (hb : Below w.heap.size w w') (b : Nat) (hbb : base ≤ b) (r : List Int) (hN : Nums .i64 w' w'.heap.size (some ⟨b, 0, none⟩) r.length r) :
    RowsAcc w' base (vals ++ [.slice (some ⟨b, 0, none⟩) r.length r.length]) (rows ++ [r]) := by
  have h' := h.below hb
  refine ⟨by simp [h.1], fun i r2 v hi hv => ?_⟩
  by_cases e : i < rows.length
  · rw [List.getElem?_append_left e] at hi
    rw [List.getElem?_append_left (by rw [h.1]; exact e)] at hv
    exact h'.2 i r2 v hi hv
  · rw [List.getElem?_append_right (by omega)] at hi
    rw [List.getElem?_append_right (by rw [h.1]; omega), h.1] at hv
    cases hk : i - rows.length with
    | zero =>
      rw [hk] at hi hv
      simp at hi hv
      subst hi; subst hv
      exact ⟨b, hbb, rfl, hN⟩
    | succ k => rw [hk] at hi; simp at hi
/-- A block of numbers reads as them. -/
theorem nums_new (w : World) (r : List Int) (e : TypeId) : Nums .i64 (w.alloc (.cells (r.map (Value.int .i64)).toArray e)) (w.alloc (.cells (r.map (Value.int .i64)).toArray e)).heap.size (some ⟨w.heap.size, 0, none⟩) r.length r := by
  refine ⟨rfl, fun i u hu => ⟨_, rfl, by simp, ?_⟩⟩
  rw [Addr.add_mid, Nat.zero_add, cell_of_row _ w.heap.size i _ e (0, 0) (heap_alloc_new _ _)]
  simp [hu]
/-- A row of literals is built. -/
theorem wpList_row {ops : Array Oper} {rest : List Oper} {o : Oper} {a : Act} {w : World} {Q : Exit → Act → World → Prop} {vals : List Value} {rows : List (List Int)} (hg : o.guard = none) {n : Nat} {ps : Array (Nat × Operand)}
    (ho : o.op = .buildSlice 23 n ps) (hev : ∀ ρ : Operand → Value, (∀ v, ρ (.const v) = v) → (ps.map fun (i, x) => (i, ρ x)) = ps.map fun (i, x) => (i, litV x)) (hn : (rowOf ps).length = n)
    (hrun : ∀ W, (Instr.buildSlice 23 n (ps.map fun (i, x) => (i, litV x))).run Tryd.prog W = .ok (.slice (some ⟨W.heap.size, 0, none⟩) n n) (W.alloc (.cells ((rowOf ps).map (Value.int .i64)).toArray 3)))
    {base : Nat} (hbase : base ≤ w.heap.size) (hacc : RowsAcc w base vals rows)
    (hK : ∀ w', Below w.heap.size w w' → RowsAcc w' base (vals ++ [.slice (some ⟨w.heap.size, 0, none⟩) n n]) (rows ++ [rowOf ps]) → wpList Tryd.prog ops Q rest (a.put o.dst (.slice (some ⟨w.heap.size, 0, none⟩) n n)) w') :
    wpList Tryd.prog ops Q (o :: rest) a w := by
  refine wpList_plain hg fun K' hK' => ?_
  have hb : Below w.heap.size w (w.alloc (.cells ((rowOf ps).map (Value.int .i64)).toArray 3)) := (Below.refl _ _).alloc (Nat.le_refl _) _
  have hs := hacc.snoc hb w.heap.size hbase (rowOf ps) (nums_new w (rowOf ps) _)
  rw [hn] at hs
  have := hK' _ _ (hK _ hb hs)
  unfold Oper.wp
  simp only [execOp, ho, hev a.eval (fun _ => rfl)]
  simp [hrun, Result.andThen]
  exact this
/-- The slice at A reads as these rows. -/
def RowsAt (w : World) (base : Nat) (A : Addr) (rows : List (List Int)) : Prop :=
  ∀ (i : Nat) (r : List Int), rows[i]? = some r → A.block < w.heap.size ∧ ∃ b, base ≤ b ∧ w.cell? (A.add i) = some (.slice (some ⟨b, 0, none⟩) r.length r.length) ∧ Nums .i64 w w.heap.size (some ⟨b, 0, none⟩) r.length r
theorem RowsAt.below {w w' : World} {base : Nat} {A : Addr} {rows : List (List Int)} (h : RowsAt w base A rows) (hb : Below w.heap.size w w') : RowsAt w' base A rows := fun i r hi => by
  obtain ⟨hA, b, hbb, hc, hN⟩ := h i r hi
  exact ⟨by have := hb.size; omega, b, hbb, (hb.cell (by rw [addr_block]; exact hA)).trans hc, (hN.below hb).more hb.size⟩
/-- What a call that builds rows answers. -/
def RowsPost (rows : List (List Int)) (w : World) (e : Ending) (w' : World) : Prop := ∃ A, e = .returned (.slice (some A) rows.length rows.length) ∧ RowsAt w' w.heap.size A rows ∧ Below w.heap.size w w'
theorem rows_end {w : World} {base : Nat} {vals : List Value} {rows : List (List Int)} (h : RowsAcc w base vals rows) (e : TypeId) : RowsAt (w.alloc (.cells vals.toArray e)) base ⟨w.heap.size, 0, none⟩ rows := fun i r hi => by
  have hb : Below w.heap.size w (w.alloc (.cells vals.toArray e)) := (Below.refl _ _).alloc (Nat.le_refl _) _
  have hlt : i < vals.length := by rw [h.1]; exact (List.getElem?_eq_some_iff.1 hi).1
  obtain ⟨b, hbb, hv, hN⟩ := (h.below hb).2 i r _ hi (List.getElem?_eq_getElem hlt)
  refine ⟨by simp, b, hbb, ?_, hN⟩
  rw [Addr.add_mid, Nat.zero_add, cell_of_row _ w.heap.size i _ e (0, 0) (heap_alloc_new _ _)]
  simp [List.getElem?_eq_getElem hlt, hv]
/-- The slice of the rows is built. -/
theorem wpList_rows {ops : Array Oper} {rest : List Oper} {o : Oper} {a : Act} {w : World} {Q : Exit → Act → World → Prop} {vals : List Value} {rows : List (List Int)} (hg : o.guard = none) {n : Nat} {ps : Array (Nat × Operand)}
    (ho : o.op = .buildSlice 81 n ps)
    (hrun : ∀ W, (Instr.buildSlice 81 n (ps.map fun (i, x) => (i, a.eval x))).run Tryd.prog W = .ok (.slice (some ⟨W.heap.size, 0, none⟩) n n) (W.alloc (.cells vals.toArray 23)))
    {base : Nat} (hacc : RowsAcc w base vals rows)
    (hK : ∀ w', Below w.heap.size w w' → RowsAt w' base ⟨w.heap.size, 0, none⟩ rows → wpList Tryd.prog ops Q rest (a.put o.dst (.slice (some ⟨w.heap.size, 0, none⟩) n n)) w') :
    wpList Tryd.prog ops Q (o :: rest) a w := by
  refine wpList_plain hg fun K' hK' => ?_
  have hb : Below w.heap.size w (w.alloc (.cells vals.toArray 23)) := (Below.refl _ _).alloc (Nat.le_refl _) _
  have := hK' _ _ (hK _ hb (rows_end hacc _))
  unfold Oper.wp
  simp only [execOp, ho]
  simp [hrun, Result.andThen]
  exact this
namespace Ex
def magicL : List (List Int) := [[0, 2, 4, 0, 0], [4, 9, 0, 0, 2], [1, 10, -2, -2, 2], [3, 1, 2, 0, 2], [1, 10, 3, 3, 2], [1, 6, 0, 0, 2], [0, 4, 2, 0, 0], [2, 19, 1, 0, 2], [1, 1, 4, 0, 2], [1, 11, 2, 0, 2], [0, 20, 1, 0, 0, 10, 1, 1, 2], [5, 7, 0, 0, 2], [2, 3, 3, 0, 2], [1, 10, 3, 0, 2], [1, 23, 64, 0, 2], [5, 8, 0, 0, 2], [0, 17, 3, 0, 0], [0, 21, 0, 0, 0, 3, 2, 0, 1, 2, 2, 0, 0], [0, 20, 0, 0, 0, 1, 2, 0, 2], [0, 14, 2, 116, 0], [0, 21, 0, 0, 0, 2, 2, 0, 0, 4, 1, 0, 0], [1, 12, 0, 0, 2], [1, 6, 0, 0, 2], [0, 1, 3, 0, 4], [0, 15, 3, 4, 0], [0, 22, 0, 10, 0, 2, 8, 0, 0, 4, 1, 0, 0], [0, 21, 0, 0, 0, 4, 3, 0, 0, 19, 1, 0, 0], [0, 5, 4, 0, 4], [3, 21, 0, 0, 0, 1, 2, 0, 2, 4, 1, 0, 0], [0, 20, 1, 0, 0, 11, 1, 0, 2]]
def relicL : List (List Int) := [[5, -1, 0, 0, 20, 1, 0, 0, 10, 0, 2, 2], [5, -1, 0, 0, 20, 1, 0, 0, 23, 1, 0, 2], [5, -1, 0, 0, 20, 2, 0, 0, 10, -1, 0, 2], [5, -1, 0, 0, 20, 1, 0, 0, 10, 1, 0, 2], [5, -1, 0, 0, 20, 1, 0, 0, 10, 1, 1, 2], [4, -1, 0, 0, 2, 1, 0, 0], [4, -1, 0, 0, 17, 1, 0, 0], [4, -1, 0, 0, 3, 1, 0, 4], [4, -1, 0, 0, 1, 1, 0, 1], [4, -1, 0, 0, 15, 1, 4, 0], [1, 5, 1, 1, 10, 0, 1, 2], [1, 5, 1, 1, 12, 0, 0, 2], [1, 5, 1, 0, 3, 1, 0, 1], [1, 5, 1, 3, 1, 1, 0, 2], [1, 5, 1, 1, 13, 0, 0, 2], [5, -1, 0, 0, 20, 0, 0, 0, 25, 1, 0, 2], [1, 1, 0, 0, 13, 0, 0, 3], [5, -1, 0, 0, 20, 2, 0, 0, 24, 1, 1, 2], [3, -1, 0, 0, 1, 3, 0, 4], [2, -1, 0, 0, 14, 1, 119, 0]]
def specialL : List (List Int) := [[2, 1, 0, 0, 0, 0, 0, -1, 0, 0, 18, 0, 0, 0], [2, 2, 0, 0, 0, 0, 0, -1, 0, 0, 19, 2, 0, 1], [2, 1, 0, 0, 0, 0, 0, -1, 0, 0, 16, 3, 0, 1], [2, 1, 1, 0, 0, 0, 0, -1, 0, 0, 17, 2, 0, 1], [2, 2, 0, 0, 0, 0, 0, -1, 0, 0, 5, 3, 0, 4], [2, 3, 1, 0, 0, 0, 0, -1, 0, 4, 9, 0, 0, 2], [2, 2, 0, 0, 0, 0, 0, -1, 0, 0, 20, 0, 0, 0, 7, 0, 0, 2], [3, 2, 0, 0, 0, 0, 1, -1, 0, 0, 15, 1, 5, 0], [1, 2, 0, 1, 1, 0, 1, 5, 0, 0, 13, 0, 0, 3], [2, 3, 0, 0, 0, 0, 0, -1, 0, 0, 14, 2, 112, 0], [2, 4, 0, 0, 0, 0, 0, -1, 0, 0, 20, 0, 0, 0, 6, 0, 0, 2], [1, 3, 1, 2, 3, 5, 3, -1, 0, 0, 4, 1, 0, 0]]
end Ex
set_option linter.unusedSimpArgs false in
set_option maxRecDepth 100000 in
set_option maxHeartbeats 8000000 in
theorem magicRef_any (w : World) : Calls Tryd.prog 36 #[] w (RowsPost magicL w) := by
  go_enter Tryd.func36, Tryd.ntmps36
  go_upto_region 1 with fail
  have hb := Below.refl w.heap.size w
  have hacc := RowsAcc.nil w w.heap.size
  go_wp2_with (first
    | (refine wpList_row rfl rfl (fun ρ h => by simp only [List.map_toArray, List.map_cons, List.map_nil, h, litV]) rfl (fun _ => by kernel_rfl) hb.size hacc ?_; intro w' hb' hacc'; replace hb := keepB hb' hb; replace hacc := hacc'; clear hacc' hb'; simp only [List.nil_append, List.cons_append] at hacc)
    | (refine wpList_rows rfl rfl (fun _ => by kernel_rfl) hacc ?_; intro w' hb' hrows; replace hb := keepB hb' hb; clear hacc hb'))
  go_ret
  exact ⟨_, rfl, hrows, hb⟩
set_option linter.unusedSimpArgs false in
set_option maxRecDepth 100000 in
set_option maxHeartbeats 8000000 in
theorem relicRef_any (w : World) : Calls Tryd.prog 39 #[] w (RowsPost relicL w) := by
  go_enter Tryd.func39, Tryd.ntmps39
  go_upto_region 1 with fail
  have hb := Below.refl w.heap.size w
  have hacc := RowsAcc.nil w w.heap.size
  go_wp2_with (first
    | (refine wpList_row rfl rfl (fun ρ h => by simp only [List.map_toArray, List.map_cons, List.map_nil, h, litV]) rfl (fun _ => by kernel_rfl) hb.size hacc ?_; intro w' hb' hacc'; replace hb := keepB hb' hb; replace hacc := hacc'; clear hacc' hb'; simp only [List.nil_append, List.cons_append] at hacc)
    | (refine wpList_rows rfl rfl (fun _ => by kernel_rfl) hacc ?_; intro w' hb' hrows; replace hb := keepB hb' hb; clear hacc hb'))
  go_ret
  exact ⟨_, rfl, hrows, hb⟩
set_option linter.unusedSimpArgs false in
set_option maxRecDepth 100000 in
set_option maxHeartbeats 8000000 in
theorem specialRef_any (w : World) : Calls Tryd.prog 40 #[] w (RowsPost specialL w) := by
  go_enter Tryd.func40, Tryd.ntmps40
  go_upto_region 1 with fail
  have hb := Below.refl w.heap.size w
  have hacc := RowsAcc.nil w w.heap.size
  go_wp2_with (first
    | (refine wpList_row rfl rfl (fun ρ h => by simp only [List.map_toArray, List.map_cons, List.map_nil, h, litV]) rfl (fun _ => by kernel_rfl) hb.size hacc ?_; intro w' hb' hacc'; replace hb := keepB hb' hb; replace hacc := hacc'; clear hacc' hb'; simp only [List.nil_append, List.cons_append] at hacc)
    | (refine wpList_rows rfl rfl (fun _ => by kernel_rfl) hacc ?_; intro w' hb' hrows; replace hb := keepB hb' hb; clear hacc hb'))
  go_ret
  exact ⟨_, rfl, hrows, hb⟩
end Go.Proofs.YtplfblccaeligaaDoor
namespace Go.Proofs.YtplfblccaeligaaDoor
open Go.RowKit Ex Wx
/-- One more effect behind the list: the operation alone. -/
theorem wp_appE {o : Oper} {a : Act} {w : World} {K : Act → World → Prop} {Q : Exit → Act → World → Prop} (s x : Operand)
    (ho : o.op = .call { callee := .builtin .append, args := #[s, x], argTypes := #[63, 63] })
    (base d : Nat) (A : Option Addr) (n c : Nat) (ts : List ET) (hs : a.eval s = .slice A n c) (h : OwnE w base d A n c ts)
    (g c2 : Nat) (xs : Array Value) (hx : a.eval x = .slice (some ⟨g, 0, none⟩) 1 c2) (hg : EvAt w g xs) (t : ET)
    (hr : ReadsQ (fun b => base ≤ b ∧ b < w.heap.size ∧ some b ≠ (Value.slice A n c).ownBlock) w d xs t) (hn : n ≤ 1000) (hbase : base ≤ w.heap.size)
    (hK : ∀ A' c' w', OwnE w' base d A' (n + 1) c' (ts ++ [t]) → w.grownBy w' (Value.slice A n c).ownBlock → K (a.put o.dst (.slice A' (n + 1) c')) w') : o.wp Tryd.prog a w K Q := by
  obtain ⟨i0, hi, hz0, hz1, hz2⟩ := info_parts info_eff
  obtain ⟨⟨css, h1, h2, h3, h4⟩, h5⟩ := h
  have hxs := hr.size
  obtain ⟨v', w', hrun, hown, hgr, hnil, hat⟩ := run_append_own_at (P := Tryd.prog) w base 63 o.type 65 i0 _ 5 56 Tryd.underlying63 hi hz0 hz1 hz2 rfl (by omega) _ n (flatC css) h3 ⟨g, 0, none⟩ 1 c2 xs.toList (by rw [Array.length_toList, hxs])
    (fun j u hj => by rw [Addr.add_mid, Nat.zero_add, hg.cell, ← Array.getElem?_toList]; exact hj) hr.one (by unfold maxLen; omega) (by omega) hbase
  rw [← flatC_snoc] at hown
  have hform : ∃ A' c', v' = .slice A' (n + 1) c' := by
    rcases hown.2 with ⟨rfl, hz⟩ | ⟨g', cap, _, rfl, _⟩
    · omega
    · exact ⟨_, _, rfl⟩
  obtain ⟨A', c', rfl⟩ := hform
  have hsz := hgr.size
  have hfin := hK A' c' w' ⟨⟨css ++ [xs], by simp [h1], fun cs hc => by
      rcases List.mem_append.1 hc with hc | hc
      · exact h2 cs hc
      · simp at hc; subst hc; exact hxs, hown, fun i t2 cs ht hc => by
      have hq : ReadsQ (fun b => base ≤ b ∧ b < w.heap.size ∧ some b ≠ (Value.slice A n c).ownBlock) w d cs t2 := by
        by_cases e : i < ts.length
        · rw [List.getElem?_append_left e] at ht
          rw [List.getElem?_append_left (by omega)] at hc
          exact h4 i t2 cs ht hc
        · rw [List.getElem?_append_right (by omega)] at ht hc
          rw [h1] at hc
          cases hk : i - ts.length with
          | zero =>
            rw [hk] at ht hc
            simp at ht hc
            subst ht; subst hc
            exact hr
          | succ k => rw [hk] at ht; simp at ht
      refine hq.keep (fun b hb => hgr.block b hb.2.1 hb.2.2) (fun b hb => ⟨hb.1, by omega, ?_⟩)
      rcases hat with hat | hat
      · rw [hat]; exact hb.2.2
      · rw [hat]; simp; omega⟩, by simp [h5]⟩ hgr
  unfold Oper.wp execOp
  simp only [ho, resolve, invoke, builtin, Sem.run_bind, Sem.run_pure, Result.andThen_ok, List.map_toArray, List.map_cons, List.map_nil, hs, hx, hrun]
  exact hfin
theorem wp_buildSlice_eff {o : Oper} {a : Act} {w : World} {K : Act → World → Prop} {Q : Exit → Act → World → Prop} (x : Operand) (ho : o.op = .buildSlice 63 1 #[(0, x)])
    (cs : Array Value) (hs : cs.size = 5) (hx : a.eval x = .agg cs) (hK : K (a.put o.dst (.slice (some ⟨w.heap.size, 0, none⟩) 1 1)) (w.alloc (.cells cs 65))) : o.wp Tryd.prog a w K Q := by
  unfold Oper.wp
  simp [execOp, ho, hx, buildSlice_eff cs hs, Result.andThen]
  exact hK
theorem results_cell_one {P : Program} {fn : Func} {p : Tmp} {ty : TypeId} (h : fn.results = #[.cell p ty]) (tmps : Array Value) (w : World) (g : Nat) (t : TypeId) (cs : Array Value) (fr : Nat × Nat) (d : TypeDesc)
    (hp : tmps.getD p undef = .pointer (some ⟨g, 0, none⟩)) (hg : w.heap[g]? = some (.cells cs t fr))
    (hu : P.underlying ty = some d) (hd : (match d with | .struct _ | .array _ _ => true | _ => false) = true) (hi : (P.info? ty).map (·.size) = some cs.size) :
    (results fn tmps).run P w = .ok (.agg cs) w := by
  have hp' : tmps[p]?.getD undef = .pointer (some ⟨g, 0, none⟩) := by simpa using hp
  simp [results, h, hp', asAddr, run_loadVar_row w g t ty cs fr d hg hu hd hi]
end Go.Proofs.YtplfblccaeligaaDoor
namespace Go.Proofs.YtplfblccaeligaaDoor
open Go.RowKit Ex Mx
theorem ReadsAQ.size {Q : Nat → Prop} {w : World} {d : Nat} {cs : Array Value} {a : AbT} (h : ReadsAQ Q w d cs a) : cs.size = 14 := by
  obtain ⟨_, _, _, xs, rfl, hr⟩ := h
  have := hr.size
  simp [abC, arr_size, this]
theorem ReadsAQ.one {Q : Nat → Prop} {w : World} {d : Nat} {cs : Array Value} {a : AbT} (h : ReadsAQ Q w d cs a) : ∀ u ∈ cs.toList, u.oneCell' = true := by
  obtain ⟨_, _, _, xs, rfl, hr⟩ := h
  have h1 := hr.one
  have h2 := arr_one .i64 6 a.cost
  intro u hu
  simp only [abC, Array.toList_append, List.mem_append] at hu
  rcases hu with ((hu | hu) | hu) | hu
  · simp at hu; subst hu; rfl
  · exact (Array.all_eq_true_iff_forall_mem.1 h2) u (by simpa using hu)
  · simp at hu; rcases hu with rfl | rfl <;> rfl
  · exact h1 u hu
theorem flatA_at : ∀ {css : List (Array Value)}, (∀ cs ∈ css, cs.size = 14) → ∀ (i : Nat) (cs : Array Value), css[i]? = some cs → ∀ j v, cs.toList[j]? = some v → (flatC css)[i * 14 + j]? = some v
  | [], _, i, cs, h, _, _, _ => by simp at h
  | x :: css, hs, 0, cs, h, j, v, hv => by
    simp at h; subst h
    simp only [flatC, List.flatMap_cons, Nat.zero_mul, Nat.zero_add]
    rw [List.getElem?_append_left (List.getElem?_eq_some_iff.1 hv).1]; exact hv
  | x :: css, hs, i + 1, cs, h, j, v, hv => by
    have h5 := hs x (by simp)
    have ih := flatA_at (css := css) (fun y hy => hs y (by simp [hy])) i cs (by simpa using h) j v hv
    simp only [flatC, List.flatMap_cons] at ih ⊢
    rw [List.getElem?_append_right (by rw [Array.length_toList]; omega), Array.length_toList, show (i + 1) * 14 + j - x.size = i * 14 + j by omega]
    exact ih
/-- A list of abilities of the call's own: its cells, and how they read: in blocks from base on, not in the list's. -/
structure OwnA (w : World) (base d : Nat) (A : Option Addr) (n c : Nat) (ts : List AbT) : Prop where
  css : ∃ css : List (Array Value), css.length = ts.length ∧ (∀ cs ∈ css, cs.size = 14) ∧ w.ownsRow base 79 14 (.slice A n c) n (flatC css) ∧
    ∀ (i : Nat) (t : AbT) (cs : Array Value), ts[i]? = some t → css[i]? = some cs → ReadsAQ (fun b => base ≤ b ∧ b < w.heap.size ∧ some b ≠ (Value.slice A n c).ownBlock) w d cs t
  len : ts.length = n
theorem OwnA.nil (w : World) (base d : Nat) : OwnA w base d none 0 0 [] := ⟨⟨[], rfl, by simp, World.ownsRow_nil w base _ 14, fun i t cs h => by simp at h⟩, rfl⟩
theorem OwnA.below {w w' : World} {base d n c : Nat} {A : Option Addr} {ts : List AbT} (h : OwnA w base d A n c ts) (hb : Below w.heap.size w w') : OwnA w' base d A n c ts := by
  obtain ⟨⟨css, h1, h2, h3, h4⟩, h5⟩ := h
  refine ⟨⟨css, h1, h2, h3.kept ⟨hb.os, hb.tape, hb.output, hb.size, fun k hk _ => hb.block k hk⟩ (row := none) ?_, fun i t cs ht hc => (h4 i t cs ht hc).keep (fun b hq => hb.block b hq.2.1) (fun b hq => ⟨hq.1, by have := hb.size; omega, hq.2.2⟩)⟩, h5⟩
  by_cases hv : (Value.slice A n c).ownBlock = none
  · exact .inl hv
  · exact .inr (by intro e; exact hv e)
/-- The list's cells, read as abilities within one. -/
theorem OwnA.within {w : World} {base d n c B : Nat} {A : Option Addr} {ts : List AbT} (h : OwnA w base d A n c ts) (hB : w.heap.size ≤ B) :
    n ≤ c ∧ c ≤ maxLen ∧ RdAQ (fun b => base ≤ b ∧ b < B) w d A ts := by
  obtain ⟨⟨css, h1, h2, h3, h4⟩, h5⟩ := h
  rcases h3.2 with ⟨hv, hn⟩ | ⟨g, cap, cur, hv, hbs, hg, hnc, hcm, hcs, htk⟩
  · injection hv with e1 e2 e3
    subst e3
    exact ⟨by omega, by unfold maxLen; omega, fun i t hi => by rw [hn] at h5; rw [List.eq_nil_of_length_eq_zero h5] at hi; simp at hi⟩
  · injection hv with e1 e2 e3
    subst e3
    refine ⟨hnc, hcm, fun i t hi => ?_⟩
    have hlt : i < css.length := by rw [h1]; exact (List.getElem?_eq_some_iff.1 hi).1
    have hcs' := List.getElem?_eq_getElem hlt
    have hgl := (Array.getElem?_eq_some_iff.1 hg).1
    refine ⟨g, 0, css[i], e1, ⟨hbs, by omega⟩, ⟨_, hg⟩, fun j v hv => ?_, (h4 i t _ hi hcs').keep (fun _ _ => rfl) (fun b hq => ⟨hq.1, by omega⟩)⟩
    have := h3.cells (g := g) (by rw [e1]; rfl) (i * 14 + j) v (flatA_at h2 i _ hcs' j v hv)
    rw [Addr.add_mid, ← Nat.add_assoc] at this
    rw [Nat.zero_mul]
    exact this
theorem OwnA.same {w w' : World} {base d n c : Nat} {A : Option Addr} {ts : List AbT} (h : OwnA w base d A n c ts) (hs : w.heap.size ≤ w'.heap.size) (hb : ∀ b, base ≤ b → b < w.heap.size → w'.heap[b]? = w.heap[b]?) : OwnA w' base d A n c ts := by
  obtain ⟨⟨css, h1, h2, h3, h4⟩, h5⟩ := h
  refine ⟨⟨css, h1, h2, ⟨h3.1, ?_⟩, fun i t cs ht hc => (h4 i t cs ht hc).keep (fun b hq => hb b hq.1 hq.2.1) (fun b hq => ⟨hq.1, by omega, hq.2.2⟩)⟩, h5⟩
  rcases h3.2 with hv | ⟨g, cap, cur, hv, hbs, hg, rest⟩
  · exact .inl hv
  · exact .inr ⟨g, cap, cur, hv, hbs, by rw [hb g hbs (Array.getElem?_eq_some_iff.1 hg).1]; exact hg, rest⟩
theorem OwnA.ownLt {w : World} {base d n c : Nat} {A : Option Addr} {ts : List AbT} (h : OwnA w base d A n c ts) : ∀ g, (Value.slice A n c).ownBlock = some g → base ≤ g := by
  obtain ⟨⟨css, _, _, h3, _⟩, _⟩ := h
  exact fun g hg => (h3.lt g hg).1
theorem OwnA.ownTop {w : World} {base d n c : Nat} {A : Option Addr} {ts : List AbT} (h : OwnA w base d A n c ts) : ∀ g, (Value.slice A n c).ownBlock = some g → g < w.heap.size := by
  obtain ⟨⟨css, _, _, h3, _⟩, _⟩ := h
  exact fun g hg => (h3.lt g hg).2
theorem buildSlice_14 (a0 a1 a2 a3 a4 a5 a6 a7 a8 a9 a10 a11 a12 a13 : Value) (W : World) : (Instr.buildSlice 53 1 #[(0, .agg #[a0, a1, a2, a3, a4, a5, a6, a7, a8, a9, a10, a11, a12, a13])]).run Tryd.prog W = .ok (.slice (some ⟨W.heap.size, 0, none⟩) 1 1) (W.alloc (.cells #[a0, a1, a2, a3, a4, a5, a6, a7, a8, a9, a10, a11, a12, a13] 79)) := by
  kernel_rfl
theorem buildSlice_ab (cs : Array Value) (hs : cs.size = 14) (W : World) : (Instr.buildSlice 53 1 #[(0, .agg cs)]).run Tryd.prog W = .ok (.slice (some ⟨W.heap.size, 0, none⟩) 1 1) (W.alloc (.cells cs 79)) := by
  obtain ⟨l⟩ := cs
  match l, hs with
  | [a0, a1, a2, a3, a4, a5, a6, a7, a8, a9, a10, a11, a12, a13], _ => exact buildSlice_14 a0 a1 a2 a3 a4 a5 a6 a7 a8 a9 a10 a11 a12 a13 W
theorem wpList_buildSlice_ab {ops : Array Oper} {rest : List Oper} {o : Oper} {a : Act} {w : World} {Q : Exit → Act → World → Prop} (hg : o.guard = none) (x : Operand) (ho : o.op = .buildSlice 53 1 #[(0, x)])
    (cs : Array Value) (hs : cs.size = 14) (hx : a.eval x = .agg cs) (hK : wpList Tryd.prog ops Q rest (a.put o.dst (.slice (some ⟨w.heap.size, 0, none⟩) 1 1)) (w.alloc (.cells cs 79))) : wpList Tryd.prog ops Q (o :: rest) a w := by
  refine wpList_plain hg fun K' hK' => ?_
  unfold Oper.wp
  simp [execOp, ho, hx, buildSlice_ab cs hs, Result.andThen]
  exact hK' _ _ hK
theorem info_ab : (Tryd.prog.info? 79).map (fun i => (i.zero, i.size, i.bytes)) = some (some (.agg zeroA), 14, 128) := by kernel_rfl
/-- One more ability behind the list. -/
theorem wpList_appA {ops : Array Oper} {rest : List Oper} {o : Oper} {a : Act} {w : World} {Q : Exit → Act → World → Prop} (hgd : o.guard = none) (s x : Operand)
    (ho : o.op = .call { callee := .builtin .append, args := #[s, x], argTypes := #[53, 53] })
    (base d : Nat) (A : Option Addr) (n c : Nat) (ts : List AbT) (hs : a.eval s = .slice A n c) (h : OwnA w base d A n c ts)
    (g c2 : Nat) (xs : Array Value) (hx : a.eval x = .slice (some ⟨g, 0, none⟩) 1 c2) (hg : AbAt w g xs) (t : AbT)
    (hr : ReadsAQ (fun b => base ≤ b ∧ b < w.heap.size ∧ some b ≠ (Value.slice A n c).ownBlock) w d xs t) (hn : n ≤ 1000) (hbase : base ≤ w.heap.size)
    (hK : ∀ A' c' w', OwnA w' base d A' (n + 1) c' (ts ++ [t]) → w.grownBy w' (Value.slice A n c).ownBlock → wpList Tryd.prog ops Q rest (a.put o.dst (.slice A' (n + 1) c')) w') :
    wpList Tryd.prog ops Q (o :: rest) a w := by
  obtain ⟨i0, hi, hz0, hz1, hz2⟩ := info_parts info_ab
  obtain ⟨⟨css, h1, h2, h3, h4⟩, h5⟩ := h
  have hxs := hr.size
  refine wpList_append_own_at w hgd s x 53 ho base 79 i0 _ 14 128 Tryd.underlying53 hi hz0 hz1 hz2 rfl (by omega) _ n (flatC css) hs h3 ⟨g, 0, none⟩ 1 c2 xs.toList hx (by rw [Array.length_toList, hxs])
    (fun j u hj => by rw [Addr.add_mid, Nat.zero_add, hg.cell, ← Array.getElem?_toList]; exact hj) hr.one (by unfold maxLen; omega) (by omega) hbase ?_
  intro v' w' hown hgr hnil hat
  rw [← flatC_snoc] at hown
  have hform : ∃ A' c', v' = .slice A' (n + 1) c' := by
    rcases hown.2 with ⟨rfl, hz⟩ | ⟨g', cap, _, rfl, _⟩
    · omega
    · exact ⟨_, _, rfl⟩
  obtain ⟨A', c', rfl⟩ := hform
  have hsz := hgr.size
  refine hK A' c' w' ⟨⟨css ++ [xs], by simp [h1], fun cs hc => ?_, hown, fun i t2 cs ht hc => ?_⟩, by simp [h5]⟩ hgr
  · rcases List.mem_append.1 hc with hc | hc
    · exact h2 cs hc
    · simp at hc; subst hc; exact hxs
  · have hq : ReadsAQ (fun b => base ≤ b ∧ b < w.heap.size ∧ some b ≠ (Value.slice A n c).ownBlock) w d cs t2 := by
      by_cases e : i < ts.length
      · rw [List.getElem?_append_left e] at ht
        rw [List.getElem?_append_left (by omega)] at hc
        exact h4 i t2 cs ht hc
      · rw [List.getElem?_append_right (by omega)] at ht hc
        rw [h1] at hc
        cases hk : i - ts.length with
        | zero =>
          rw [hk] at ht hc
          simp at ht hc
          subst ht; subst hc
          exact hr
        | succ k => rw [hk] at ht; simp at ht
    refine hq.keep (fun b hb => hgr.block b hb.2.1 hb.2.2) (fun b hb => ⟨hb.1, by omega, ?_⟩)
    rcases hat with hat | hat
    · rw [hat]; exact hb.2.2
    · rw [hat]; simp; omega
/-- Cells written into a block of the call's own. -/
theorem below_setCells {B b : Nat} (hB : B ≤ b) : ∀ (vs : List Value) (o : Nat) (a w : World), Below B a w → Below B a (w.setCells b o vs)
  | [], _, _, _, h => h
  | v :: vs, o, a, _, h => below_setCells hB vs (o + 1) a _ (h.setCell hB v)
theorem setCells_other {b g : Nat} (hg : g ≠ b) : ∀ (vs : List Value) (o : Nat) (w : World), (w.setCells b o vs).heap[g]? = w.heap[g]?
  | [], _, _ => rfl
  | v :: vs, o, w => (setCells_other hg vs (o + 1) _).trans (heap_setCell_other w ⟨b, o, none⟩ g v (by simpa using hg))
theorem setCells_size {b : Nat} : ∀ (vs : List Value) (o : Nat) (w : World), (w.setCells b o vs).heap.size = w.heap.size
  | [], _, _ => rfl
  | v :: vs, o, w => (setCells_size vs (o + 1) _).trans (by simp [World.setCell])
theorem ab_there {w : World} {g : Nat} {a : AbT} {xs : Array Value} (h : AbAt w g (abC a xs)) (hs : xs.size = 5) : w.there g 9 5 := fun j hj => by
  have h14 : (abC a xs).size = 14 := by simp [abC, arr_size, hs]
  exact ⟨by rw [h.cell, Array.getElem?_eq_getElem (by omega)]; rfl, frozen_of_row w g (9 + j) _ _ h⟩
theorem abC14 (a : AbT) (x0 x1 x2 x3 x4 : Value) : abC a #[x0, x1, x2, x3, x4] = #[.int .i64 a.when_, .int .i64 (a.cost 0), .int .i64 (a.cost 1), .int .i64 (a.cost 2), .int .i64 (a.cost 3), .int .i64 (a.cost 4), .int .i64 (a.cost 5), .bool a.tap, .int .i64 a.target, x0, x1, x2, x3, x4] := by
  rw [abC9]; simp
/-- Another effect is written into the box of an ability. -/
theorem ab_store {w : World} {g : Nat} {a : AbT} {xs ys : Array Value} (h : AbAt w g (abC a xs)) (hs : xs.size = 5) (hy : ys.size = 5) : AbAt (w.setCells g 9 ys.toList) g (abC a ys) := by
  obtain ⟨l⟩ := xs
  obtain ⟨l'⟩ := ys
  match l, hs with
  | [x0, x1, x2, x3, x4], _ =>
    match l', hy with
    | [y0, y1, y2, y3, y4], _ =>
      have hc : (((((abC a #[x0, x1, x2, x3, x4]).setIfInBounds 9 y0).setIfInBounds 10 y1).setIfInBounds 11 y2).setIfInBounds 12 y3).setIfInBounds 13 y4 = abC a #[y0, y1, y2, y3, y4] := by
        rw [abC14, abC14]; simp only [List.setIfInBounds_toArray, List.set_cons_zero, List.set_cons_succ]
      have e1 := heap_setCell_same w g 9 _ _ y0 h
      have e2 := heap_setCell_same _ g 10 _ _ y1 e1
      have e3 := heap_setCell_same _ g 11 _ _ y2 e2
      have e4 := heap_setCell_same _ g 12 _ _ y3 e3
      have e5 := heap_setCell_same _ g 13 _ _ y4 e4
      rw [hc] at e5
      have hw : w.setCells g 9 (Array.mk [y0, y1, y2, y3, y4]).toList = ((((w.setCell ⟨g, 9, none⟩ y0).setCell ⟨g, 10, none⟩ y1).setCell ⟨g, 11, none⟩ y2).setCell ⟨g, 12, none⟩ y3).setCell ⟨g, 13, none⟩ y4 := by
        simp only [World.setCells]
      rw [hw]
      exact e5
theorem cd_set (c : CardT) (A A' : Option Addr) (k cc k' cc' : Nat) : (cardC c A k cc).setIfInBounds 12 (.slice A' k' cc') = cardC c A' k' cc' := by
  unfold cardC; rw [arr6]; rfl
end Go.Proofs.YtplfblccaeligaaDoor
