/- Layer 11: a reader of bytes that keeps its first error, and what it reads: plain facts. Layer 11: a reader in memory; what a call that turns it leaves as it was. Layer 11: the code's reader: what its small calls do. Layer 11: the code's reader: a number. Layer 11: the code's reader: numbers into places. Layer 11: the code's reader: an object. -/
import Derived.Test.YtihbdbgmijkjmaaDoorCanG0
import Derived.Test.YtihbdbgmijkjmaaDoorErr
import Derived.Test.YtihbdbgmijkjmaaDoorSl
import Derived.Test.YtihbdbgmijkjmaaDoorBase0
import Derived.Test.YtihbdbgmijkjmaaDoorCanG3
import Derived.Deep.Cut
import Derived.Test.YtihbdbgmijkjmaaDoorStBase
namespace Go.Proofs.YtihbdbgmijkjmaaDoor
open Go.RowKit Ex Px Wx
/-- What stands behind ten bytes doesn't matter to a number; a list. -/
theorem dec_take : ∀ (l : List Int) (i x m : Nat), i ≤ 9 → 10 - i ≤ m → dec i x (l.take m) = dec i x l
  | [], i, x, m, _, _ => by simp
  | b :: r, i, x, m, hi, hm => by
    obtain ⟨m', rfl⟩ : ∃ m', m = m' + 1 := ⟨m - 1, by omega⟩
    rw [List.take_succ_cons, dec, dec]
    by_cases h1 : (b = 0 ∧ 0 < i) ∨ (i = 9 ∧ 1 < b)
    · rw [if_pos h1, if_pos h1]
    · rw [if_neg h1, if_neg h1]
      by_cases h2 : b < 128
      · rw [if_pos h2, if_pos h2]
      · rw [if_neg h2, if_neg h2]
        have : i < 9 := by
          rcases Nat.lt_or_ge i 9 with h | h
          · exact h
          · exact absurd (Or.inr ⟨by omega, by omega⟩) h1
        exact dec_take r (i + 1) _ m' (by omega) (by omega)
theorem tk_take (l : List Int) {m : Nat} (h : 10 ≤ m) : tk (l.take m) = tk l := dec_take l 0 0 m (by omega) (by omega)
theorem tk_ten {l : List Int} (hl : byB l) : (tk l).2.1 ≤ 10 := by
  obtain ⟨n, k, e, ht⟩ : ∃ n k e, tk l = (n, k, e) := ⟨_, _, _, rfl⟩
  rw [ht]
  rcases tk_range hl ht with ⟨_, h, _⟩ | ⟨_, _, _, h, _⟩
  · simp [h]
  · exact h
theorem more_take : ∀ (m : Nat) (l : List Int) (T a : Nat) (acc : List Int), byB l → a + 10 * m ≤ T → more m (l.take T) a acc = more m l a acc
  | 0, _, _, _, _, _, _ => rfl
  | m + 1, l, T, a, acc, hb, h => by
    have e : tk ((l.take T).drop a) = tk (l.drop a) := by rw [List.drop_take]; exact tk_take _ (by omega)
    have h10 := tk_ten (byB_drop a hb)
    rw [more, more, e]
    split
    · rfl
    · exact more_take m l T _ _ hb (by omega)
theorem tl_take {l : List Int} (hb : byB l) : tl (l.take 4010) 400 = tl l 400 := by
  have h10 := tk_ten hb
  unfold tl
  rw [tk_take l (by omega)]
  split
  · rfl
  split
  · rfl
  split
  · rfl
  · exact more_take _ l 4010 _ _ hb (by omega)
/-- More numbers, one more. -/
theorem more_snoc : ∀ (m : Nat) (l : List Int) (a : Nat) (acc : List Int), more (m + 1) l a acc = if (more m l a acc).2.2 ≠ 0 then ([], 0, (more m l a acc).2.2) else more 1 l (more m l a acc).2.1 (more m l a acc).1
  | 0, l, a, acc => by by_cases h : (tk (l.drop a)).2.2 = 0 <;> simp [more, h]
  | m + 1, l, a, acc => by
    rw [more]
    by_cases h : (tk (l.drop a)).2.2 ≠ 0
    · have e : more (m + 1) l a acc = ([], 0, (tk (l.drop a)).2.2) := by rw [more, if_pos h]
      rw [if_pos h, e, if_pos h]
    · have e : more (m + 1) l a acc = more m l (a + (tk (l.drop a)).2.1) (acc ++ [(tk (l.drop a)).1]) := by rw [more, if_neg h]
      rw [if_neg h, e]
      exact more_snoc m l _ _
/-- An error is kept, if none was ahead of it. -/
def keepE (e k : Int) : Int := if e = 0 then k else e
def numR (l : List Int) (e : Int) : Int × List Int × Int :=
  if e ≠ 0 then (0, l, e) else if (tk l).2.2 ≠ 0 then (0, l.drop 10, (tk l).2.2) else ((tk l).1, l.drop (tk l).2.1, 0)
def listR (l : List Int) (e : Int) : List Int × List Int × Int :=
  if e ≠ 0 then ([], l, e) else if (tl l 400).2.2 ≠ 0 then ([], l.drop 4010, (tl l 400).2.2) else ((tl l 400).1, l.drop (tl l 400).2.1, 0)
def fillR : Nat → List Int → Int → List Int × List Int × Int
  | 0, l, e => ([], l, e)
  | m + 1, l, e => ((fillR m l e).1 ++ [(numR (fillR m l e).2.1 (fillR m l e).2.2).1], (numR (fillR m l e).2.1 (fillR m l e).2.2).2)
/-- An object's head, told; the error behind it. -/
def headE (n e : Int) : Int := if n < 0 ∨ 4294967295 < n then keepE e 1 else e
def oneR (l : List Int) (e : Int) : (Nat → Int) × List Int × Int :=
  let q := numR l e
  let r := fillR 9 q.2.1 (headE q.1 q.2.2)
  (if IntKind.u32.wrap q.1 < 2097152 then objF (IntKind.u32.wrap q.1) (fun i => r.1.getD i 0) else fun _ => 0, r.2.1, keepE r.2.2 (if IntKind.u32.wrap q.1 < 2097152 then 0 else 2))
def manyR : Nat → List Int → Int → List (Nat → Int) × List Int × Int
  | 0, l, e => ([], l, e)
  | m + 1, l, e => if (manyR m l e).2.2 ≠ 0 then manyR m l e else ((manyR m l e).1 ++ [(oneR (manyR m l e).2.1 (manyR m l e).2.2).1], (oneR (manyR m l e).2.1 (manyR m l e).2.2).2)
/-- The count of objects; the error behind it. -/
def cntE (n e : Int) : Int := if 400 < n then keepE (if n < 0 then keepE e 1 else e) 5 else if n < 0 then keepE e 1 else e
def countR (l : List Int) (e : Int) : List (Nat → Int) × List Int × Int := manyR (numR l e).1.toNat (numR l e).2.1 (cntE (numR l e).1 (numR l e).2.2)
def listsR : Nat → List Int → Int → (Nat → List Int) × List Int × Int
  | 0, l, e => (fun _ => [], l, e)
  | z + 1, l, e => (fun i => if i = z then (listR (listsR z l e).2.1 (listsR z l e).2.2).1 else (listsR z l e).1 i, (listR (listsR z l e).2.1 (listsR z l e).2.2).2)
def stateR (l : List Int) (e : Int) : StT × List Int × Int :=
  let o := countR l e
  let s := listsR 11 o.2.1 o.2.2
  let a := fillR 9 s.2.1 s.2.2
  let b := fillR 9 a.2.1 a.2.2
  let c := fillR 7 b.2.1 b.2.2
  (mkS o.1 s.1 (a.1 ++ b.1 ++ c.1), c.2.1, c.2.2)
theorem fillR_len : ∀ (m : Nat) (l : List Int) (e : Int), (fillR m l e).1.length = m
  | 0, _, _ => rfl
  | m + 1, l, e => by rw [fillR]; simp [fillR_len m l e]
section
variable {l : List Int} {e : Int}
theorem numR_i64 (hl : byB l) : i64B (numR l e).1 := by
  obtain ⟨n, k, e1, ht⟩ : ∃ n k e1, tk l = (n, k, e1) := ⟨_, _, _, rfl⟩
  have h0 : i64B 0 := by unfold i64B; omega
  unfold numR
  rw [ht]
  split
  · exact h0
  split
  · exact h0
  · rcases tk_range hl ht with ⟨h, _⟩ | ⟨_, _, _, _, h, _⟩
    · simp only; rw [h]; exact h0
    · exact h
theorem numR_by (hl : byB l) : byB (numR l e).2.1 := by
  unfold numR
  split
  · exact hl
  split <;> exact byB_drop _ hl
theorem numR_len : (numR l e).2.1.length ≤ l.length := by
  unfold numR
  split
  · exact Nat.le_refl _
  split <;> simp
theorem listR_by (hl : byB l) : byB (listR l e).2.1 := by
  unfold listR
  split
  · exact hl
  split <;> exact byB_drop _ hl
theorem listR_i64 (hl : byB l) : ∀ n ∈ (listR l e).1, i64B n := by
  obtain ⟨x, k, e1, ht⟩ : ∃ x k e1, tl l 400 = (x, k, e1) := ⟨_, _, _, rfl⟩
  unfold listR
  rw [ht]
  split
  · intro n hn; cases hn
  split
  · intro n hn; cases hn
  · rename_i _ h
    rcases tl_range hl 400 ht with ⟨_, _, h1⟩ | ⟨_, _, h1, _⟩
    · exact absurd (by simp only; omega) h
    · exact h1
theorem listR_few (hl : byB l) : (listR l e).1.length ≤ 400 := by
  obtain ⟨n, k, e1, ht⟩ : ∃ n k e1, tk l = (n, k, e1) := ⟨_, _, _, rfl⟩
  unfold listR
  split
  · simp
  split
  · simp
  · rename_i _ h
    unfold tl at h ⊢
    rw [ht] at h ⊢
    simp only at h ⊢
    split
    · simp
    split
    · simp
    split
    · simp
    · rename_i h1 h2 h3
      rw [if_neg h1, if_neg h2, if_neg h3] at h
      have hk : k ≤ l.length := by
        rcases tk_range hl ht with ⟨_, h, _⟩ | ⟨_, _, h, _⟩ <;> omega
      obtain ⟨x, k2, e2, hm⟩ : ∃ x k2 e2, more n.toNat l k [] = (x, k2, e2) := ⟨_, _, _, rfl⟩
      rw [hm]
      rcases more_range n.toNat l k [] hl hk (fun n hn => by cases hn) x k2 e2 hm with ⟨h4, _⟩ | ⟨_, _, _, s, h4, h5, _⟩
      · simp [h4]
      · simp only [h4, List.nil_append, h5]; omega
end
theorem fillR_by : ∀ (m : Nat) {l : List Int} {e : Int}, byB l → byB (fillR m l e).2.1 ∧ ∀ n ∈ (fillR m l e).1, i64B n
  | 0, l, e, hl => ⟨hl, fun n hn => by cases hn⟩
  | m + 1, l, e, hl => by
    have ih := fillR_by m (e := e) hl
    rw [fillR]
    refine ⟨numR_by ih.1, fun n hn => ?_⟩
    rcases List.mem_append.1 hn with h | h
    · exact ih.2 n h
    · rw [List.mem_singleton.1 h]; exact numR_i64 ih.1
theorem getD_i64 {l : List Int} (h : ∀ n ∈ l, i64B n) (i : Nat) : i64B (l.getD i 0) := by
  rw [List.getD_eq_getElem?_getD]
  by_cases hi : i < l.length
  · rw [List.getElem?_eq_getElem hi]; exact h _ (List.getElem_mem hi)
  · rw [List.getElem?_eq_none (by omega)]; unfold i64B; simp
theorem oneR_by {l : List Int} {e : Int} (hl : byB l) : byB (oneR l e).2.1 ∧ ∀ i, i < 18 → i64B ((oneR l e).1 i) := by
  have h := fillR_by 9 (e := headE (numR l e).1 (numR l e).2.2) (numR_by (e := e) hl)
  refine ⟨h.1, ?_⟩
  unfold oneR
  simp only
  split
  · rename_i hx
    refine objF_i64 ?_ hx fun i _ => getD_i64 h.2 i
    rw [IntKind.wrap_u32]; omega
  · intro i _; show i64B 0; unfold i64B; omega
theorem manyR_by : ∀ (m : Nat) {l : List Int} {e : Int}, byB l → byB (manyR m l e).2.1 ∧ (∀ o ∈ (manyR m l e).1, ∀ i, i < 18 → i64B (o i)) ∧ (manyR m l e).1.length ≤ m
  | 0, l, e, hl => ⟨hl, (fun o ho => by cases ho), Nat.le_refl _⟩
  | m + 1, l, e, hl => by
    have ih := manyR_by m (e := e) hl
    rw [manyR]
    split
    · exact ⟨ih.1, ih.2.1, by omega⟩
    · have h := oneR_by (e := (manyR m l e).2.2) ih.1
      refine ⟨h.1, fun o ho => ?_, by simp; omega⟩
      rcases List.mem_append.1 ho with h' | h'
      · exact ih.2.1 o h'
      · rw [List.mem_singleton.1 h']; exact h.2
theorem manyR_stay : ∀ (m k : Nat) (l : List Int) (e : Int), (manyR m l e).2.2 ≠ 0 → manyR (m + k) l e = manyR m l e
  | m, 0, _, _, _ => rfl
  | m, k + 1, l, e, h => by
    have ih := manyR_stay m k l e h
    rw [← Nat.add_assoc, manyR, ih, if_pos h]
theorem manyR_len : ∀ (m : Nat) (l : List Int) (e : Int), (manyR m l e).2.2 = 0 → (manyR m l e).1.length = m
  | 0, _, _, _ => rfl
  | m + 1, l, e, h => by
    rw [manyR] at h ⊢
    by_cases h0 : (manyR m l e).2.2 ≠ 0
    · rw [if_pos h0] at h; exact absurd h h0
    · rw [if_neg h0]
      have := manyR_len m l e (by omega)
      simp [this]
section
variable {l : List Int}
theorem numR_ok {n : Int} {k : Nat} (h : tk l = (n, k, 0)) : numR l 0 = (n, l.drop k, 0) := by unfold numR; rw [h]; simp
theorem numR_bad {n : Int} {k : Nat} {e : Int} (h : tk l = (n, k, e)) (he : e ≠ 0) : numR l 0 = (0, l.drop 10, e) := by unfold numR; rw [h]; simp [he]
theorem numR_err {e : Int} (he : e ≠ 0) : numR l e = (0, l, e) := by unfold numR; rw [if_pos he]
theorem listR_ok {x : List Int} {k : Nat} (h : tl l 400 = (x, k, 0)) : listR l 0 = (x, l.drop k, 0) := by unfold listR; rw [h]; simp
theorem listR_bad {x : List Int} {k : Nat} {e : Int} (h : tl l 400 = (x, k, e)) (he : e ≠ 0) : listR l 0 = ([], l.drop 4010, e) := by unfold listR; rw [h]; simp [he]
theorem listR_err {e : Int} (he : e ≠ 0) : listR l e = ([], l, e) := by unfold listR; rw [if_pos he]
end
/-- Once there is an error, it stays. -/
theorem fillR_err : ∀ (m : Nat) (l : List Int) (e : Int), e ≠ 0 → (fillR m l e).2.2 = e
  | 0, _, _, _ => rfl
  | m + 1, l, e, h => by
    have ih := fillR_err m l e h
    rw [fillR, ih, numR_err h]
theorem listsR_err : ∀ (m : Nat) (l : List Int) (e : Int), e ≠ 0 → (listsR m l e).2.2 = e
  | 0, _, _, _ => rfl
  | m + 1, l, e, h => by
    have ih := listsR_err m l e h
    rw [listsR, ih, listR_err h]
theorem manyR_err (m : Nat) (l : List Int) (e : Int) (h : e ≠ 0) : manyR m l e = ([], l, e) := by
  have := manyR_stay 0 m l e h
  rw [Nat.zero_add] at this
  exact this
theorem keepE_err {e : Int} (h : e ≠ 0) (k : Int) : keepE e k = e := if_neg h
theorem keepE_nil (k : Int) : keepE 0 k = k := if_pos rfl
theorem oneR_err (l : List Int) {e : Int} (h : e ≠ 0) : (oneR l e).2.2 = e := by
  have h1 : headE (numR l e).1 (numR l e).2.2 = e := by
    rw [numR_err h]; unfold headE; rw [if_neg (by simp only; omega)]
  unfold oneR
  simp only
  rw [h1, fillR_err 9 _ _ h, keepE_err h]
/-- Numbers without an error; with one. -/
theorem fillR_more : ∀ (m : Nat) (l : List Int) {x : List Int} {k : Nat} {e : Int}, byB l → more m l 0 [] = (x, k, e) → (e = 0 → fillR m l 0 = (x, l.drop k, 0)) ∧ (e ≠ 0 → (fillR m l 0).2.2 = e)
  | 0, l, x, k, e, _, h => by
    simp only [more, Prod.mk.injEq] at h
    obtain ⟨rfl, rfl, rfl⟩ := h
    exact ⟨fun _ => by simp [fillR], fun h => absurd rfl h⟩
  | m + 1, l, x, k, e, hl, h => by
    obtain ⟨x1, k1, e1, h1⟩ : ∃ x1 k1 e1, more m l 0 [] = (x1, k1, e1) := ⟨_, _, _, rfl⟩
    rw [more_snoc, h1] at h
    obtain ⟨i0, i1⟩ := fillR_more m l hl h1
    by_cases he : e1 = 0
    · subst he
      obtain ⟨n, j, e2, ht⟩ : ∃ n j e2, tk (l.drop k1) = (n, j, e2) := ⟨_, _, _, rfl⟩
      simp only [ne_eq, not_true_eq_false, if_false] at h
      rw [fillR, i0 rfl]
      by_cases h2 : e2 = 0
      · subst h2
        rw [more_ok ht, more] at h
        simp only [Prod.mk.injEq] at h
        obtain ⟨rfl, rfl, rfl⟩ := h
        refine ⟨fun _ => ?_, fun h => absurd rfl h⟩
        simp only
        rw [numR_ok ht, List.drop_drop]
      · rw [more_bad ht h2] at h
        simp only [Prod.mk.injEq] at h
        obtain ⟨rfl, rfl, rfl⟩ := h
        refine ⟨fun h => absurd h h2, fun _ => ?_⟩
        simp only
        rw [numR_bad ht h2]
    · simp only [ne_eq, he, not_false_eq_true, if_true, Prod.mk.injEq] at h
      obtain ⟨rfl, rfl, rfl⟩ := h
      refine ⟨fun h => absurd h he, fun _ => ?_⟩
      rw [fillR, i1 he, numR_err he]
theorem wrap_head {n : Int} (h : ¬ (n < 0 ∨ 4294967295 < n)) : IntKind.u32.wrap n = n := by rw [IntKind.wrap_u32]; omega
/-- An object, as a parse has it. -/
theorem oneR_step {l : List Int} {acc : List (Nat → Int)} (hl : byB l) : pO 1 l acc = if (oneR l 0).2.2 ≠ 0 then ([], [], (oneR l 0).2.2) else (acc ++ [(oneR l 0).1], (oneR l 0).2.1, 0) := by
  obtain ⟨n, k, e1, ht⟩ : ∃ n k e1, tk l = (n, k, e1) := ⟨_, _, _, rfl⟩
  by_cases he : e1 = 0
  case neg =>
    have h0 : (oneR l 0).2.2 = e1 := by
      have h1 : headE (numR l 0).1 (numR l 0).2.2 = e1 := by
        rw [numR_bad ht he]; unfold headE; rw [if_neg (by simp only; omega)]
      unfold oneR; simp only
      rw [h1, fillR_err 9 _ _ he, keepE_err he]
    rw [pO_e1 ht he, h0, if_pos he]
  subst he
  by_cases hr : n < 0 ∨ 4294967295 < n
  · have h0 : (oneR l 0).2.2 = 1 := by
      have h1 : headE (numR l 0).1 (numR l 0).2.2 = 1 := by
        rw [numR_ok ht]; unfold headE; rw [if_pos hr]; rfl
      unfold oneR; simp only
      rw [h1, fillR_err 9 _ _ (by decide), keepE_err (by decide)]
    rw [pO_e2 ht hr, h0, if_pos (by decide)]
  obtain ⟨x, k2, e2, hm⟩ : ∃ x k2 e2, more 9 (l.drop k) 0 [] = (x, k2, e2) := ⟨_, _, _, rfl⟩
  obtain ⟨f0, f1⟩ := fillR_more 9 (l.drop k) (byB_drop k hl) hm
  have h1 : headE (numR l 0).1 (numR l 0).2.2 = 0 := by
    rw [numR_ok ht]; unfold headE; rw [if_neg hr]
  have hn : (numR l 0).2.1 = l.drop k := by rw [numR_ok ht]
  have hx : (numR l 0).1 = n := by rw [numR_ok ht]
  by_cases h2 : e2 = 0
  case neg =>
    have h0 : (oneR l 0).2.2 = e2 := by
      unfold oneR; simp only
      rw [h1, hn, f1 h2, keepE_err h2]
    rw [pO_e3 ht hr hm h2, h0, if_pos h2]
  subst h2
  have ho : oneR l 0 = (if n < 2097152 then objF n (fun i => x.getD i 0) else fun _ => 0, (l.drop k).drop k2, if n < 2097152 then 0 else 2) := by
    unfold oneR; simp only
    rw [h1, hn, f0 rfl, hx, wrap_head hr, keepE_nil]
  rw [ho]
  by_cases hb : n < 2097152
  · rw [pO_ok ht hr hm (by omega)]
    simp only [if_pos hb, ne_eq, not_true_eq_false, if_false, pO]
  · rw [pO_e4 ht hr hm (by omega)]
    simp only [if_neg hb]
    rfl
theorem pO_snoc : ∀ (m : Nat) (l : List Int) (acc : List (Nat → Int)), pO (m + 1) l acc = if (pO m l acc).2.2 ≠ 0 then ([], [], (pO m l acc).2.2) else pO 1 (pO m l acc).2.1 (pO m l acc).1
  | 0, l, acc => by rw [show pO 0 l acc = (acc, l, 0) from rfl]; simp only [ne_eq, not_true_eq_false, if_false]
  | m + 1, l, acc => by
    rw [pO]
    by_cases h1 : (tk l).2.2 ≠ 0
    · have e : pO (m + 1) l acc = ([], [], (tk l).2.2) := by rw [pO, if_pos h1]
      rw [if_pos h1, e, if_pos h1]
    by_cases h2 : (tk l).1 < 0 ∨ 4294967295 < (tk l).1
    · have e : pO (m + 1) l acc = ([], [], 1) := by rw [pO, if_neg h1, if_pos h2]
      rw [if_neg h1, if_pos h2, e, if_pos (by decide)]
    by_cases h3 : (more 9 (l.drop (tk l).2.1) 0 []).2.2 ≠ 0
    · have e : pO (m + 1) l acc = ([], [], (more 9 (l.drop (tk l).2.1) 0 []).2.2) := by rw [pO, if_neg h1, if_neg h2, if_pos h3]
      rw [if_neg h1, if_neg h2, if_pos h3, e, if_pos h3]
    by_cases h4 : 2097152 ≤ (tk l).1
    · have e : pO (m + 1) l acc = ([], [], 2) := by rw [pO, if_neg h1, if_neg h2, if_neg h3, if_pos h4]
      rw [if_neg h1, if_neg h2, if_neg h3, if_pos h4, e, if_pos (by decide)]
    rw [if_neg h1, if_neg h2, if_neg h3, if_neg h4]
    conv => rhs; rw [pO, if_neg h1, if_neg h2, if_neg h3, if_neg h4]
    exact pO_snoc m _ _
theorem manyR_pO : ∀ (m : Nat) (l : List Int) {os : List (Nat → Int)} {r : List Int} {e : Int}, byB l → pO m l [] = (os, r, e) → (e = 0 → manyR m l 0 = (os, r, 0)) ∧ (e ≠ 0 → (manyR m l 0).2.2 = e)
  | 0, l, os, r, e, _, h => by
    simp only [pO, Prod.mk.injEq] at h
    obtain ⟨rfl, rfl, rfl⟩ := h
    exact ⟨fun _ => rfl, fun h => absurd rfl h⟩
  | m + 1, l, os, r, e, hl, h => by
    obtain ⟨o1, r1, e1, h1⟩ : ∃ o1 r1 e1, pO m l [] = (o1, r1, e1) := ⟨_, _, _, rfl⟩
    rw [pO_snoc, h1] at h
    obtain ⟨i0, i1⟩ := manyR_pO m l hl h1
    by_cases he : e1 = 0
    · subst he
      simp only [ne_eq, not_true_eq_false, if_false] at h
      have hr1 : byB r1 := by
        have := (manyR_by m (e := 0) hl).1
        rwa [i0 rfl] at this
      rw [oneR_step hr1] at h
      have e0 : (manyR m l 0).2.2 = 0 := by rw [i0 rfl]
      rw [manyR, if_neg (by rw [e0]; simp), i0 rfl]
      simp only
      by_cases h2 : (oneR r1 0).2.2 = 0
      · rw [if_neg (by simpa using h2)] at h
        simp only [Prod.mk.injEq] at h
        obtain ⟨rfl, rfl, rfl⟩ := h
        exact ⟨fun _ => Prod.ext rfl (Prod.ext rfl h2), fun h => absurd rfl h⟩
      · rw [if_pos h2] at h
        simp only [Prod.mk.injEq] at h
        obtain ⟨rfl, rfl, rfl⟩ := h
        exact ⟨fun h => absurd h h2, fun _ => rfl⟩
    · simp only [ne_eq, he, not_false_eq_true, if_true, Prod.mk.injEq] at h
      obtain ⟨rfl, rfl, rfl⟩ := h
      refine ⟨fun h => absurd h he, fun _ => ?_⟩
      rw [manyR, i1 he, if_pos he, i1 he]
theorem pL_snoc : ∀ (m z : Nat) (l : List Int) (L : Nat → List Int), pL (m + 1) z l L = if (pL m z l L).2.2 ≠ 0 then (fun _ => [], [], (pL m z l L).2.2) else pL 1 (z + m) (pL m z l L).2.1 (pL m z l L).1
  | 0, z, l, L => by rw [show pL 0 z l L = (L, l, 0) from rfl]; simp only [ne_eq, not_true_eq_false, if_false, Nat.add_zero]
  | m + 1, z, l, L => by
    rw [pL]
    by_cases h1 : (tl l 400).2.2 ≠ 0
    · have e : pL (m + 1) z l L = (fun _ => [], [], (tl l 400).2.2) := by rw [pL, if_pos h1]
      rw [if_pos h1, e, if_pos h1]
    rw [if_neg h1]
    conv => rhs; rw [pL, if_neg h1, show z + (m + 1) = z + 1 + m by omega]
    exact pL_snoc m (z + 1) _ _
theorem listsR_pL : ∀ (m : Nat) (l : List Int) {L : Nat → List Int} {r : List Int} {e : Int}, pL m 0 l (fun _ => []) = (L, r, e) → (e = 0 → listsR m l 0 = (L, r, 0)) ∧ (e ≠ 0 → (listsR m l 0).2.2 = e)
  | 0, l, L, r, e, h => by
    simp only [pL, Prod.mk.injEq] at h
    obtain ⟨rfl, rfl, rfl⟩ := h
    exact ⟨fun _ => rfl, fun h => absurd rfl h⟩
  | m + 1, l, L, r, e, h => by
    obtain ⟨o1, r1, e1, h1⟩ : ∃ o1 r1 e1, pL m 0 l (fun _ => []) = (o1, r1, e1) := ⟨_, _, _, rfl⟩
    rw [pL_snoc, h1] at h
    obtain ⟨i0, i1⟩ := listsR_pL m l h1
    by_cases he : e1 = 0
    · subst he
      simp only [ne_eq, not_true_eq_false, if_false, Nat.zero_add] at h
      obtain ⟨x, k, e2, ht⟩ : ∃ x k e2, tl r1 400 = (x, k, e2) := ⟨_, _, _, rfl⟩
      rw [listsR, i0 rfl]
      by_cases h2 : e2 = 0
      · subst h2
        rw [pL_ok ht, pL] at h
        simp only [Prod.mk.injEq] at h
        obtain ⟨rfl, rfl, rfl⟩ := h
        refine ⟨fun _ => ?_, fun h => absurd rfl h⟩
        simp only
        rw [listR_ok ht]
      · rw [pL_bad ht h2] at h
        simp only [Prod.mk.injEq] at h
        obtain ⟨rfl, rfl, rfl⟩ := h
        refine ⟨fun h => absurd h h2, fun _ => ?_⟩
        simp only
        rw [listR_bad ht h2]
    · simp only [ne_eq, he, not_false_eq_true, if_true, Prod.mk.injEq] at h
      obtain ⟨rfl, rfl, rfl⟩ := h
      refine ⟨fun h => absurd h he, fun _ => ?_⟩
      rw [listsR, i1 he, listR_err he]
/-- Numbers in two parts. -/
theorem fillR_add : ∀ (m k : Nat) (l : List Int) (e : Int), fillR (m + k) l e = ((fillR m l e).1 ++ (fillR k (fillR m l e).2.1 (fillR m l e).2.2).1, (fillR k (fillR m l e).2.1 (fillR m l e).2.2).2)
  | m, 0, l, e => by simp [fillR]
  | m, k + 1, l, e => by
    rw [← Nat.add_assoc, fillR, fillR_add m k l e, fillR]
    simp only [List.append_assoc]
/-- A state's 25 numbers. -/
theorem stateR_25 (l : List Int) (e : Int) : stateR l e = (mkS (countR l e).1 (listsR 11 (countR l e).2.1 (countR l e).2.2).1 (fillR 25 (listsR 11 (countR l e).2.1 (countR l e).2.2).2.1 (listsR 11 (countR l e).2.1 (countR l e).2.2).2.2).1,
    (fillR 25 (listsR 11 (countR l e).2.1 (countR l e).2.2).2.1 (listsR 11 (countR l e).2.1 (countR l e).2.2).2.2).2) := by
  unfold stateR
  simp only
  rw [show (25 : Nat) = 9 + 9 + 7 from rfl, fillR_add (9 + 9) 7, fillR_add 9 9]
theorem listsR_by : ∀ (m : Nat) {l : List Int} {e : Int}, byB l → byB (listsR m l e).2.1 ∧ (∀ z, ∀ n ∈ (listsR m l e).1 z, i64B n) ∧ ∀ z, ((listsR m l e).1 z).length ≤ 400
  | 0, l, e, hl => ⟨hl, (fun z n hn => by cases hn), fun z => by simp [listsR]⟩
  | m + 1, l, e, hl => by
    have ih := listsR_by m (e := e) hl
    rw [listsR]
    refine ⟨listR_by ih.1, fun z n hn => ?_, fun z => ?_⟩
    · simp only at hn
      split at hn
      · exact listR_i64 ih.1 n hn
      · exact ih.2.1 z n hn
    · simp only
      split
      · exact listR_few ih.1
      · exact ih.2.2 z
theorem cntE_few {n e : Int} (h : cntE n e = 0) : e = 0 ∧ 0 ≤ n ∧ n ≤ 400 := by
  unfold cntE keepE at h
  by_cases h1 : 400 < n
  · rw [if_pos h1, if_neg (show ¬ n < 0 by omega)] at h
    split at h <;> omega
  · rw [if_neg h1] at h
    by_cases h2 : n < 0
    · rw [if_pos h2] at h
      split at h <;> omega
    · rw [if_neg h2] at h; omega
/-- What a parse ends in. -/
def endE (l : List Int) (e k : Int) : Int := keepE (if 0 < l.length then keepE e 3 else e) k
theorem stateR_parse {l : List Int} (hl : byB l) : parseS l = if endE (stateR l 0).2.1 (stateR l 0).2.2 (chkS (stateR l 0).1) = 0 then ((stateR l 0).1, 0) else (sT0, endE (stateR l 0).2.1 (stateR l 0).2.2 (chkS (stateR l 0).1)) := by
  have herr : ∀ e, e ≠ 0 → (stateR l 0).2.2 = e → parseS l = (sT0, e) → parseS l = if endE (stateR l 0).2.1 (stateR l 0).2.2 (chkS (stateR l 0).1) = 0 then ((stateR l 0).1, 0) else (sT0, endE (stateR l 0).2.1 (stateR l 0).2.2 (chkS (stateR l 0).1)) := by
    intro e he h1 h2
    have h3 : endE (stateR l 0).2.1 (stateR l 0).2.2 (chkS (stateR l 0).1) = e := by
      unfold endE
      rw [h1, keepE_err he]
      simp only [ite_self]
      exact keepE_err he _
    rw [h2, h3, if_neg he]
  obtain ⟨n, k, e1, ht⟩ : ∃ n k e1, tk l = (n, k, e1) := ⟨_, _, _, rfl⟩
  have hend : ∀ e, e ≠ 0 → (countR l 0).2.2 = e → (stateR l 0).2.2 = e := by
    intro e he h
    rw [stateR_25, h]
    simp only
    rw [listsR_err 11 _ _ he, fillR_err 25 _ _ he]
  by_cases he : e1 = 0
  case neg =>
    refine herr e1 he (hend e1 he ?_) (parse_e1 ht he)
    have : cntE (numR l 0).1 (numR l 0).2.2 = e1 := by rw [numR_bad ht he]; rfl
    rw [countR, this, manyR_err _ _ _ he]
  subst he
  have hn := numR_ok ht
  by_cases h0 : n < 0
  · refine herr 1 (by decide) (hend 1 (by decide) ?_) (parse_e2 ht h0)
    have : cntE (numR l 0).1 (numR l 0).2.2 = 1 := by rw [hn]; unfold cntE; rw [if_neg (by simp only; omega), if_pos h0]; rfl
    rw [countR, this, manyR_err _ _ _ (by decide)]
  by_cases h4 : 400 < n
  · refine herr 5 (by decide) (hend 5 (by decide) ?_) (parse_e3 ht h4)
    have : cntE (numR l 0).1 (numR l 0).2.2 = 5 := by rw [hn]; unfold cntE; rw [if_pos h4, if_neg h0]; rfl
    rw [countR, this, manyR_err _ _ _ (by decide)]
  have hc0 : cntE (numR l 0).1 (numR l 0).2.2 = 0 := by rw [hn]; unfold cntE; rw [if_neg h4, if_neg h0]
  have hcnt : countR l 0 = manyR n.toNat (l.drop k) 0 := by rw [countR, hc0, hn]
  obtain ⟨os, r, e2, hp⟩ : ∃ os r e2, pO n.toNat (l.drop k) [] = (os, r, e2) := ⟨_, _, _, rfl⟩
  obtain ⟨p0, p1⟩ := manyR_pO n.toNat (l.drop k) (byB_drop k hl) hp
  have hgo := parse_go ht h0 h4 hp
  by_cases h2 : e2 = 0
  case neg =>
    refine herr e2 h2 (hend e2 h2 ?_) (by rw [hgo, if_pos h2])
    rw [hcnt, p1 h2]
  subst h2
  rw [p0 rfl] at hcnt
  rw [if_neg (by simp)] at hgo
  obtain ⟨L, r2, e3, hL⟩ : ∃ L r2 e3, pL 11 0 r (fun _ => []) = (L, r2, e3) := ⟨_, _, _, rfl⟩
  obtain ⟨q0, q1⟩ := listsR_pL 11 r hL
  have hg2 := parse2_go (os := os) hL
  by_cases h3 : e3 = 0
  case neg =>
    refine herr e3 h3 ?_ (by rw [hgo, hg2, if_pos h3])
    rw [stateR_25, hcnt]
    simp only
    rw [q1 h3, fillR_err 25 _ _ h3]
  subst h3
  rw [if_neg (by simp)] at hg2
  have hr : byB r := by
    have := (manyR_by n.toNat (e := 0) (byB_drop k hl)).1
    rwa [p0 rfl] at this
  have hr2 : byB r2 := by
    have := (listsR_by 11 (e := 0) hr).1
    rwa [q0 rfl] at this
  obtain ⟨x, k5, e5, hm⟩ : ∃ x k5 e5, more 25 r2 0 [] = (x, k5, e5) := ⟨_, _, _, rfl⟩
  obtain ⟨m0, m1⟩ := fillR_more 25 r2 hr2 hm
  by_cases h5 : e5 = 0
  case neg =>
    refine herr e5 h5 ?_ (by rw [hgo, hg2, parse3_e1 hm h5])
    rw [stateR_25, hcnt]
    simp only
    rw [q0 rfl]
    exact m1 h5
  subst h5
  have hst : stateR l 0 = (mkS os L x, r2.drop k5, 0) := by
    rw [stateR_25, hcnt]
    simp only
    rw [q0 rfl]
    simp only
    rw [m0 rfl]
  rw [hst, hgo, hg2]
  simp only
  by_cases h6 : k5 < r2.length
  · have : endE (r2.drop k5) 0 (chkS (mkS os L x)) = 3 := by
      unfold endE
      rw [if_pos (by rw [List.length_drop]; omega), keepE_nil, keepE_err (by decide)]
    rw [this, if_neg (by decide), parse3_e2 hm h6]
  · have : endE (r2.drop k5) 0 (chkS (mkS os L x)) = chkS (mkS os L x) := by
      unfold endE
      rw [if_neg (by rw [List.length_drop]; omega), keepE_nil]
    rw [this]
    by_cases h7 : chkS (mkS os L x) = 0
    · rw [if_pos h7, parse3_go hm h6 h7]
    · rw [if_neg h7, parse3_e3 hm h6 h7]
end Go.Proofs.YtihbdbgmijkjmaaDoor
namespace Go.Proofs.YtihbdbgmijkjmaaDoor
open Go.RowKit Ex Px Wx
set_option maxRecDepth 100000
/-- Of what stood there nothing is turned but two blocks. -/
structure But (g h : Nat) (w w' : World) : Prop where
  os : w'.os = w.os
  tape : w'.tape = w.tape
  output : w'.output = w.output
  size : w.heap.size ≤ w'.heap.size
  block : ∀ k, k < w.heap.size → k ≠ g → k ≠ h → w'.heap[k]? = w.heap[k]?
section
variable {g h : Nat} {a w w' w'' : World}
theorem But.refl (g h : Nat) (w : World) : But g h w w := ⟨rfl, rfl, rfl, Nat.le_refl _, fun _ _ _ _ => rfl⟩
theorem But.trans (x : But g h a w) (y : But g h w w') : But g h a w' :=
  ⟨y.os.trans x.os, y.tape.trans x.tape, y.output.trans x.output, Nat.le_trans x.size y.size, fun k hk h1 h2 => (y.block k (Nat.lt_of_lt_of_le hk x.size) h1 h2).trans (x.block k hk h1 h2)⟩
theorem But.wide (x : But g g w w') (h : Nat) : But g h w w' := ⟨x.os, x.tape, x.output, x.size, fun k hk h1 _ => x.block k hk h1 h1⟩
theorem But.ofBelow (x : Below w.heap.size w w') : But g h w w' := ⟨x.os, x.tape, x.output, x.size, fun k hk _ _ => x.block k hk⟩
theorem But.setL (x : But g h a w) (i : Nat) (v : Value) : But g h a (w.setCell ⟨g, i, none⟩ v) :=
  x.trans ⟨rfl, rfl, rfl, by simp [World.setCell], fun k _ h1 _ => heap_setCell_other w ⟨g, i, none⟩ k v (by simpa using h1)⟩
theorem But.setR (x : But g h a w) (i : Nat) (v : Value) : But g h a (w.setCell ⟨h, i, none⟩ v) :=
  x.trans ⟨rfl, rfl, rfl, by simp [World.setCell], fun k _ _ h2 => heap_setCell_other w ⟨h, i, none⟩ k v (by simpa using h2)⟩
/-- What is kept below B, if the two blocks stand from B on. -/
theorem But.below {B : Nat} (x : But g h w w') (hb : Below B a w) (hB : B ≤ w.heap.size) (hg : B ≤ g) (hh : B ≤ h) : Below B a w' :=
  hb.trans ⟨x.os, x.tape, x.output, x.size, fun k hk => x.block k (by omega) (by omega) (by omega)⟩
/-- The two blocks are the call's own. -/
theorem But.own (x : But g h w w') (hb : Below a.heap.size a w) (hg : a.heap.size ≤ g) (hh : a.heap.size ≤ h) : Below a.heap.size a w' := x.below hb hb.size hg hh
end
/-- A reader: what is left, and the error so far. -/
def RdAt (W : World) (B g : Nat) (l : List Int) (e : Int) : Prop :=
  ∃ A n c, W.heap[g]? = some (.cells #[.slice A n c, errV e] 68 (0, 0)) ∧ Nums .u8 W B A n l ∧ n ≤ c ∧ n ≤ 1000000 ∧ byB l
section
variable {W W' : World} {B g h : Nat} {l l' : List Int} {e e' : Int}
theorem RdAt.lt (x : RdAt W B g l e) : g < W.heap.size := by
  obtain ⟨A, n, c, h, _⟩ := x; exact (Array.getElem?_eq_some_iff.1 h).1
theorem RdAt.by_ (x : RdAt W B g l e) : byB l := by obtain ⟨A, n, c, _, _, _, _, h⟩ := x; exact h
theorem RdAt.few (x : RdAt W B g l e) : l.length ≤ 1000000 := by obtain ⟨A, n, c, _, h1, _, h, _⟩ := x; have := h1.len; omega
theorem RdAt.keep (x : RdAt W B g l e) (hb : Below W.heap.size W W') (hB : B ≤ g) : RdAt W' B g l e := by
  have hlt := x.lt
  obtain ⟨A, n, c, h1, h2, h3⟩ := x
  exact ⟨A, n, c, (hb.block g hlt).trans h1, h2.belowL hb (by omega), h3⟩
/-- The error is written. -/
theorem RdAt.setErr (x : RdAt W B g l e) (hB : B ≤ g) (e' : Int) : RdAt (W.setCell ⟨g, 1, none⟩ (errV e')) B g l e' := by
  obtain ⟨A, n, c, h1, h2, h3⟩ := x
  refine ⟨A, n, c, ?_, h2.keep fun p hp => World.cell?_of_block (heap_setCell_other W ⟨g, 1, none⟩ p.block _ (by simp; omega)), h3⟩
  rw [heap_setCell_same W g 1 _ _ _ h1]; rfl
/-- What is left is written. -/
theorem RdAt.setLeft (x : RdAt W B g l e) (hB : B ≤ g) {A : Option Addr} {n c : Nat} (hN : Nums .u8 W B A n l') (hc : n ≤ c) (hn : n ≤ 1000000) (hb : byB l') : RdAt (W.setCell ⟨g, 0, none⟩ (.slice A n c)) B g l' e := by
  obtain ⟨A0, n0, c0, h1, h2, h3⟩ := x
  refine ⟨A, n, c, ?_, hN.keep fun p hp => World.cell?_of_block (heap_setCell_other W ⟨g, 0, none⟩ p.block _ (by simp; omega)), hc, hn, hb⟩
  rw [heap_setCell_same W g 0 _ _ _ h1]; rfl
/-- Another block is written. -/
theorem RdAt.other (x : RdAt W B g l e) (hb : ∀ k, k < B → W'.heap[k]? = W.heap[k]?) (hg : W'.heap[g]? = W.heap[g]?) : RdAt W' B g l e := by
  obtain ⟨A, n, c, h1, h2, h3⟩ := x
  exact ⟨A, n, c, hg.trans h1, h2.keep fun p hp => World.cell?_of_block (hb _ hp), h3⟩
end
end Go.Proofs.YtihbdbgmijkjmaaDoor
namespace Go.Proofs.YtihbdbgmijkjmaaDoor
open Go.RowKit Ex Px Wx
set_option maxRecDepth 100000
theorem results_no0 {P : Program} {fn : Func} (h : fn.results = #[]) (tmps : Array Value) (w : World) : (results fn tmps).run P w = .ok (.tuple #[]) w := by simp [results, h]
theorem bodyPost_none {P : Program} {fn : Func} {R : Ending → World → Prop} {a : Act} {w : World} (h : fn.results = #[]) (hd : a.defers = []) (hR : R (.returned (.tuple #[])) w) : bodyPost P fn R .normal a w :=
  ⟨hd, _, results_no0 h _ _, hR⟩
theorem fail_code (g B : Nat) (l : List Int) (e k : Int) (w : World) (h : RdAt w B g l e) (hB : B ≤ g) :
    Calls Tryd.prog 29 #[.pointer (some ⟨g, 0, none⟩), errV k] w fun en w' => en = .returned (.tuple #[]) ∧ RdAt w' B g l (keepE e k) ∧ But g g w w' := by
  have HR := Lib.hid h
  obtain ⟨A, n, c, hrow, _⟩ := h
  have c1 := cell_of_row w g 1 _ _ _ hrow
  have f1 := frozen_of_row w g 1 _ _ hrow
  simp at c1
  by_cases he : e = 0
  · subst he
    rw [errV_nil] at c1
    have HS := Lib.hid (HR.out.setErr hB k)
    rw [keepE_nil]
    clear hrow
    by_cases hk : k = 0
    · subst hk
      rw [errV_nil] at HS ⊢
      go_enter Tryd.func29, Tryd.ntmps29
      go_wp2_with fail
      exact bodyPost_none (by kernel_rfl) rfl ⟨rfl, HS.out, (But.refl g g w).setL 1 _⟩
    · rw [errV_err hk] at HS ⊢
      go_enter Tryd.func29, Tryd.ntmps29
      go_wp2_with fail
      exact bodyPost_none (by kernel_rfl) rfl ⟨rfl, HS.out, (But.refl g g w).setL 1 _⟩
  · rw [errV_err he] at c1
    rw [keepE_err he]
    clear hrow
    by_cases hk : k = 0
    · subst hk
      rw [errV_nil]
      go_enter Tryd.func29, Tryd.ntmps29
      go_wp2_with fail
      exact bodyPost_none (by kernel_rfl) rfl ⟨rfl, HR.out, But.refl g g w⟩
    · rw [errV_err hk]
      go_enter Tryd.func29, Tryd.ntmps29
      go_wp2_with fail
      exact bodyPost_none (by kernel_rfl) rfl ⟨rfl, HR.out, But.refl g g w⟩
theorem front_code (g B M : Nat) (l : List Int) (e : Int) (w : World) (h : RdAt w B g l e) :
    Calls Tryd.prog 65 #[.pointer (some ⟨g, 0, none⟩), .int .i64 (M : Int)] w fun en w' => ∃ A n c, en = .returned (.slice A n c) ∧ n = min M l.length ∧ n ≤ c ∧ Nums .u8 w' B A n (l.take M) ∧ Below w.heap.size w w' := by
  obtain ⟨A, n, c, hrow, hN, hc, hn, hby⟩ := h
  obtain rfl := hN.len
  have c0 := cell_of_row w g 0 _ _ _ hrow
  simp at c0
  obtain ⟨q, hq⟩ : ∃ q, q = min M l.length := ⟨_, rfl⟩
  obtain ⟨A1, hsl, hN1⟩ := cut_to (P := Tryd.prog) hN hc (i := q) (by omega) 30 (by kernel_rfl) (fun _ => by kernel_rfl)
  have hm : (if (M : Int) < (l.length : Int) then (M : Int) else (l.length : Int)) = (q : Int) := by split <;> omega
  have hm2 : (if (l.length : Int) < (M : Int) then (l.length : Int) else (M : Int)) = (q : Int) := by split <;> omega
  have hm3 : min (M : Int) (l.length : Int) = (q : Int) := by omega
  have ht : l.take q = l.take M := by rw [hq, ← List.take_take, List.take_length]
  rw [ht] at hN1
  have HN := Lib.hid hN1
  have HQ := Lib.hid hq
  have hqc : q ≤ c := by omega
  clear hq hN hN1 ht hrow hby
  go_enter Tryd.func65, Tryd.ntmps65
  go_wp2_with fail
  all_goals go_region
  go_wp2_with fail
  go_ret
  exact ⟨A1, q, c, rfl, HQ.out, hqc, HN.out, (Below.refl _ _).drew⟩
/-- A slice lies in blocks of the call's own. -/
theorem own_far {k : IntKind} {e : TypeId} {w : World} {base : Nat} {A : Option Addr} {n c : Nat} {l : List Int} (h : Own k e w base A n c l) : ∀ a, A = some a → base ≤ a.block := by
  intro a ha
  rcases h.2.2 with ⟨hv, _⟩ | ⟨g, cap, cur, hv, hb, _⟩
  · injection hv with h1; rw [h1] at ha; cases ha
  · injection hv with h1
    rw [h1] at ha
    injection ha with ha
    rw [← ha]; exact hb
theorem Nums.but {k : IntKind} {w w' : World} {g h : Nat} {A : Option Addr} {n : Nat} {l : List Int} (x : Nums k w w.heap.size A n l) (hf : ∀ a, A = some a → a.block ≠ g ∧ a.block ≠ h) (hb : But g h w w') : Nums k w' w'.heap.size A n l := by
  refine ⟨x.len, fun j u hu => ?_⟩
  obtain ⟨a, ea, h1, hcell⟩ := x.2 j u hu
  obtain ⟨n1, n2⟩ := hf a ea
  exact ⟨a, ea, Nat.lt_of_lt_of_le h1 hb.size, (World.cell?_of_block (by rw [addr_block]; exact hb.block _ h1 n1 n2)).trans hcell⟩
theorem drop_min (l : List Int) (m : Nat) : l.drop (min m l.length) = l.drop m := by
  by_cases h : m ≤ l.length
  · rw [Nat.min_eq_left h]
  · rw [Nat.min_eq_right (by omega), List.drop_of_length_le (Nat.le_refl _), List.drop_of_length_le (by omega)]
end Go.Proofs.YtihbdbgmijkjmaaDoor
namespace Go.Proofs.YtihbdbgmijkjmaaDoor
open Go.RowKit Ex Px Wx
set_option maxRecDepth 100000
set_option maxHeartbeats 0 in
theorem number_code (g B : Nat) (l : List Int) (e : Int) (w : World) (h : RdAt w B g l e) (hB : B ≤ g) :
    Calls Tryd.prog 63 #[.pointer (some ⟨g, 0, none⟩)] w fun en w' => en = .returned (.int .i64 (numR l e).1) ∧ RdAt w' B g (numR l e).2.1 (numR l e).2.2 ∧ But g g w w' := by
  have HR := Lib.hid h
  have hlt := h.lt
  obtain ⟨A, n, c, hrow, _⟩ := h
  have c1 := cell_of_row w g 1 _ _ _ hrow
  simp at c1
  clear hrow
  by_cases he : e = 0
  case neg =>
    rw [errV_err he] at c1
    rw [numR_err he]
    go_enter Tryd.func63, Tryd.ntmps63
    go_wp2_with fail
    go_ret
    exact ⟨rfl, HR.out, But.refl g g w⟩
  subst he
  rw [errV_nil] at c1
  have hby := HR.out.by_
  obtain ⟨z, k, e1, ht⟩ : ∃ z k e1, tk l = (z, k, e1) := ⟨_, _, _, rfl⟩
  have hrg := tk_range hby ht
  go_enter Tryd.func63, Tryd.ntmps63
  go_wp2_with fail
  refine (front_code g B 10 l 0 w HR.out).mono ?_
  rintro e w2 ⟨A2, n2, c2, rfl, hn2, hc2, hN2, hb2⟩
  have HR2 := Lib.hid (HR.out.keep hb2 hB)
  have hs2 := hb2.size
  have ht2 : tk (l.take 10) = (z, k, e1) := (tk_take l (by omega)).trans ht
  have HNum := Lib.hid hN2
  have HBy := Lib.hid (byB_take 10 hby)
  have HT := Lib.hid ht
  have HT2 := Lib.hid ht2
  have HRg := Lib.hid hrg
  have HMn := Lib.hid hn2
  clear hN2 c1 ht hby hn2 ht2 hrg
  go_wp2_with fail
  have hn2 := HMn.out
  have ht2 := HT2.out
  have hrg := HRg.out
  by_cases h1 : e1 = 0
  · subst h1
    obtain ⟨hk10, hkl⟩ : k ≤ 10 ∧ k ≤ l.length := by
      rcases hrg with ⟨_, h, _⟩ | ⟨_, _, h, h', _⟩ <;> omega
    refine (take_ok A2 n2 c2 _ w2 B HNum.out hc2 HBy.out (by omega) (by omega) z k ht2).mono ?_
    rintro e w3 ⟨A3, m3, c3, rfl, hown3, hb3⟩
    have HM3 := Lib.hid (show m3 = n2 - k by rw [← hown3.len, List.length_drop, List.length_take]; omega)
    have HR3 := Lib.hid (HR2.out.keep hb3 hB)
    have hf := fail_code g B l 0 0 w3 HR3.out hB
    rw [errV_nil, keepE_nil] at hf
    clear ht2 hrg hown3 HNum HBy hn2 HT2 HRg
    go_wp2_with fail
    refine hf.mono ?_
    rintro e w4 ⟨rfl, hR4, hb4⟩
    have HR4 := Lib.hid hR4
    have HB4 := Lib.hid ((But.ofBelow (keepB hb3 hb2)).trans hb4)
    obtain ⟨kk, hkk1⟩ : ∃ kk, kk = k := ⟨_, rfl⟩
    have hfew := HR.out.few
    have hn2 := HMn.out
    have hkk : kk ≤ l.length := by omega
    have hw : IntKind.i64.wrap ((n2 : Int) - (m3 : Int)) = (kk : Int) := by have := HM3.out; rw [i64_in (by omega) (by omega)]; omega
    have HK := Lib.hid hkk1
    clear hf hR4 hb4 hb3 hb2 HM3 hkk1 hkl hk10 HMn hn2 hfew
    obtain ⟨A5, n5, c5, hrow5, hN5, hc5, hn5, hby5⟩ := HR4.out
    obtain rfl := hN5.len
    have hcur := cell_of_row w4 g 0 _ _ _ hrow5
    have hfr := frozen_of_row w4 g 0 _ _ hrow5
    simp at hcur
    obtain ⟨A6, hsl, hN6⟩ := cut_from (P := Tryd.prog) hN5 hc5 (i := kk) hkk 30 (by kernel_rfl) (fun _ => by kernel_rfl)
    have HR5 := Lib.hid (HR4.out.setLeft hB (n := l.length - kk) (c := c5 - kk) hN6 (by omega) (by omega) (byB_drop kk hby5))
    clear hrow5 hN5 hN6 hby5
    go_wp2_with fail
    go_ret
    rw [numR_ok HT.out, ← HK.out]
    exact ⟨rfl, HR5.out, HB4.out.setL 0 _⟩
  · refine (take_bad A2 n2 c2 _ w2 B HNum.out HBy.out (by omega) e1 h1 (by rw [ht2]; rcases hrg with ⟨h, h', _⟩ | ⟨h, _⟩
                                                                           · rw [h, h']
                                                                           · exact absurd h h1)).mono ?_
    rintro e w3 ⟨rfl, rfl⟩
    have hf := fail_code g B l 0 e1 w2 HR2.out hB
    rw [errV_err h1, keepE_nil] at hf
    clear ht2 hrg HNum HBy hn2 HT2 HRg
    go_wp2_with fail
    refine hf.mono ?_
    rintro e w4 ⟨rfl, hR4, hb4⟩
    have HR4 := Lib.hid hR4
    have HB4 := Lib.hid ((But.ofBelow hb2).trans hb4)
    obtain ⟨kk, hkk1⟩ : ∃ kk, kk = n2 := ⟨_, rfl⟩
    have hfew := HR.out.few
    have hn2 := HMn.out
    have hkk : kk ≤ l.length := by omega
    have hw : IntKind.i64.wrap ((n2 : Int) - 0) = (kk : Int) := by rw [i64_in (by omega) (by omega)]; omega
    have hw0 : IntKind.i64.wrap (n2 : Int) = (kk : Int) := by rw [i64_in (by omega) (by omega)]; omega
    have HK := Lib.hid (show l.drop kk = l.drop 10 by rw [hkk1, HMn.out, drop_min])
    clear hf hR4 hb4 hb2 hkk1 HMn hn2 hfew
    obtain ⟨A5, n5, c5, hrow5, hN5, hc5, hn5, hby5⟩ := HR4.out
    obtain rfl := hN5.len
    have hcur := cell_of_row w4 g 0 _ _ _ hrow5
    have hfr := frozen_of_row w4 g 0 _ _ hrow5
    simp at hcur
    obtain ⟨A6, hsl, hN6⟩ := cut_from (P := Tryd.prog) hN5 hc5 (i := kk) hkk 30 (by kernel_rfl) (fun _ => by kernel_rfl)
    have HR5 := Lib.hid (HR4.out.setLeft hB (n := l.length - kk) (c := c5 - kk) hN6 (by omega) (by omega) (byB_drop kk hby5))
    clear hrow5 hN5 hN6 hby5
    go_wp2_with fail
    go_ret
    rw [numR_bad HT.out h1, ← HK.out]
    exact ⟨rfl, HR5.out, HB4.out.setL 0 _⟩
end Go.Proofs.YtihbdbgmijkjmaaDoor
namespace Go.Proofs.YtihbdbgmijkjmaaDoor
open Go.RowKit Ex Px Wx
set_option maxRecDepth 100000
/-- Places, the first of them written. -/
def plF (f : Nat → Int) (xs : List Int) (m : Nat) : Nat → Int := fun j => if j < m then xs.getD j 0 else f j
theorem plF_zero (f : Nat → Int) (xs : List Int) : plF f xs 0 = f := by funext j; simp [plF]
theorem plF_succ (f : Nat → Int) (xs : List Int) (m : Nat) (h : xs.length = m) (x : Int) : updI (plF f xs m) m x = plF f (xs ++ [x]) (m + 1) := by
  funext j
  unfold updI plF
  by_cases e : j = m
  · subst e
    rw [if_pos rfl, if_pos (by omega), List.getD_eq_getElem?_getD, List.getElem?_append_right (by omega), h, Nat.sub_self]; rfl
  · rw [if_neg e]
    by_cases hj : j < m
    · rw [if_pos hj, if_pos (by omega), List.getD_eq_getElem?_getD, List.getD_eq_getElem?_getD, List.getElem?_append_left (by omega)]
    · rw [if_neg hj, if_neg (by omega)]
def FiRel (w : World) (g hh B : Nat) (C : (Nat → Int) → Array Value) (t : TypeId) (n : Nat) (f : Nat → Int) (l : List Int) (e : Int) (i : Value) (wr : World) : Prop :=
  ∃ k : Nat, i = .int .i64 ((k : Nat) : Int) ∧ k ≤ n ∧ RdAt wr B g (fillR k l e).2.1 (fillR k l e).2.2 ∧ wr.heap[hh]? = some (.cells (C (plF f (fillR k l e).1 k)) t (0, 0)) ∧ But g hh w wr
set_option maxHeartbeats 0 in
theorem fill_code (g hh B : Nat) (C : (Nat → Int) → Array Value) (t : TypeId) (i0 n c : Nat) (f : Nat → Int) (l : List Int) (e : Int) (w : World) (hR : RdAt w B g l e) (hB : B ≤ g) (hBh : B ≤ hh) (hne : g ≠ hh)
    (hrow : w.heap[hh]? = some (.cells (C f) t (0, 0))) (hget : ∀ f j, j < n → (C f)[i0 + j]? = some (.int .i64 (f j))) (hset : ∀ f j x, j < n → (C f).setIfInBounds (i0 + j) (.int .i64 x) = C (updI f j x)) (hn : n ≤ 1000) :
    Calls Tryd.prog 49 #[.pointer (some ⟨g, 0, none⟩), .slice (some ⟨hh, i0, none⟩) n c] w fun en w' =>
      en = .returned (.tuple #[]) ∧ RdAt w' B g (fillR n l e).2.1 (fillR n l e).2.2 ∧ w'.heap[hh]? = some (.cells (C (plF f (fillR n l e).1 n)) t (0, 0)) ∧ But g hh w w' := by
  have HG := Lib.hid hget
  have HS := Lib.hid hset
  have HR0 := Lib.hid hR
  have HRow := Lib.hid hrow
  clear hget hset hR hrow
  go_enter Tryd.func49, Tryd.ntmps49
  go_wp2_with fail
  go_loopw [7] (fun i wr => FiRel w g hh B C t n f l e i wr) (fun i _ => n - (intOf i).toNat)
  case atStart => exact ⟨0, rfl, by omega, HR0.out, by rw [plF_zero]; exact HRow.out, But.refl g hh w⟩
  case round =>
    clear HR0 HRow
    obtain ⟨k, rfl, hk, hR, hrow, hb⟩ := hrel
    obtain ⟨xs, l1, e1, hf⟩ : ∃ xs l1 e1, fillR k l e = (xs, l1, e1) := ⟨_, _, _, rfl⟩
    rw [hf] at hR hrow
    simp only at hR hrow
    have hxs : xs.length = k := by have := fillR_len k l e; rw [hf] at this; exact this
    have HF := Lib.hid hf
    have HX := Lib.hid hxs
    have HR := Lib.hid hR
    have HRow := Lib.hid hrow
    have HB := Lib.hid hb
    clear hf hxs hR hrow hb
    by_cases hlt : k < n
    · have p0 : (0 : Int) ≤ (k : Int) := by omega
      have p1 : (k : Int) < (n : Int) := by omega
      have hlh : hh < wr.heap.size := (Array.getElem?_eq_some_iff.1 HRow.out).1
      go_wp2_with fail
      refine (number_code g B l1 e1 wr HR.out hB).mono ?_
      rintro en w2 ⟨rfl, hR2, hb2⟩
      have hrow2 := (hb2.block hh hlh (fun h => hne h.symm) (fun h => hne h.symm)).trans HRow.out
      have HB2 := Lib.hid (HB.out.trans (hb2.wide hh))
      obtain ⟨x, l2, e2, hq⟩ : ∃ x l2 e2, numR l1 e1 = (x, l2, e2) := ⟨_, _, _, rfl⟩
      rw [hq] at hR2 ⊢
      simp only at hR2 ⊢
      have c0 := cell_of_row w2 hh (i0 + k) _ _ _ hrow2
      rw [HG.out _ k hlt] at c0
      have f0 := frozen_of_row w2 hh (i0 + k) _ _ hrow2
      have HF2 := Lib.hid (show fillR (k + 1) l e = (xs ++ [x], l2, e2) by rw [fillR, HF.out, hq])
      have HR3 := Lib.hid (show RdAt (w2.setCell ⟨hh, i0 + k, none⟩ (.int .i64 x)) B g l2 e2 from hR2.other (fun q hq => heap_setCell_other w2 ⟨hh, i0 + k, none⟩ q _ (by simp; omega)) (heap_setCell_other w2 ⟨hh, i0 + k, none⟩ g _ (by simpa using hne)))
      have HRow3 := Lib.hid (show (w2.setCell ⟨hh, i0 + k, none⟩ (.int .i64 x)).heap[hh]? = some (.cells (C (plF f (xs ++ [x]) (k + 1))) t (0, 0)) by
        rw [heap_setCell_same w2 hh (i0 + k) _ _ _ hrow2, HS.out _ k x hlt, plF_succ f xs k HX.out])
      have HB3 := Lib.hid (HB2.out.setR (i0 + k) (.int .i64 x))
      clear hR2 hb2 hrow2 hq HB2
      go_wp2_with fail
      go_roundw
      case rel => exact ⟨k + 1, by go_num, by omega, by rw [HF2.out]; exact HR3.out, by rw [HF2.out]; exact HRow3.out, HB3.out⟩
      case measure => simp [intOf]; omega
    · obtain rfl : k = n := by omega
      have hd : decide ((k : Int) < (k : Int)) = false := by simp
      go_wp2_with fail
      exact bodyPost_none (by kernel_rfl) rfl ⟨rfl, by rw [HF.out]; exact HR.out, by rw [HF.out]; exact HRow.out, HB.out⟩
end Go.Proofs.YtihbdbgmijkjmaaDoor
namespace Go.Proofs.YtihbdbgmijkjmaaDoor
open Go.RowKit Ex Px Wx
set_option maxRecDepth 100000
theorem results_cellR {P : Program} {fn : Func} {p : Tmp} {ty : TypeId} (h : fn.results = #[.cell p ty]) (tmps : Array Value) (w : World) (g : Nat) (t : TypeId) (cs : Array Value) (fr : Nat × Nat) (d : TypeDesc)
    (hp : tmps.getD p undef = .pointer (some ⟨g, 0, none⟩)) (hg : w.heap[g]? = some (.cells cs t fr))
    (hu : P.underlying ty = some d) (hd : (match d with | .struct _ | .array _ _ => true | _ => false) = true) (hi : (P.info? ty).map (·.size) = some cs.size) :
    (results fn tmps).run P w = .ok (.agg cs) w := by
  have hp' : tmps[p]?.getD undef = .pointer (some ⟨g, 0, none⟩) := by simpa using hp
  simp [results, h, hp', asAddr, run_loadVar_row w g t ty cs fr d hg hu hd hi]
theorem u32_in (n : Int) : 0 ≤ IntKind.u32.wrap n ∧ IntKind.u32.wrap n < 4294967296 := by rw [IntKind.wrap_u32]; omega
theorem plF_all {xs : List Int} {m : Nat} (h : xs.length = m) : plF (fun _ => 0) xs m = fun i => xs.getD i 0 := by
  funext j
  unfold plF
  by_cases hj : j < m
  · rw [if_pos hj]
  · rw [if_neg hj, List.getD_eq_getElem?_getD, List.getElem?_eq_none (by omega)]; rfl
theorem But.inner {g h : Nat} {a w w' : World} (x : But g g a w) (y : But g h w w') (hh : a.heap.size ≤ h) : But g g a w' :=
  ⟨y.os.trans x.os, y.tape.trans x.tape, y.output.trans x.output, Nat.le_trans x.size y.size, fun k hk h1 h2 => (y.block k (Nat.lt_of_lt_of_le hk x.size) h1 (by omega)).trans (x.block k hk h1 h2)⟩
set_option maxHeartbeats 0 in
theorem object_code {z : World} (T : TabC z) (g B : Nat) (l : List Int) (e : Int) (w : World) (h : RdAt w B g l e) (hB : B ≤ g) (hBs : B ≤ w.heap.size) (hzB : z.heap.size ≤ B) (hz : Below z.heap.size z w) :
    Calls Tryd.prog 64 #[.pointer (some ⟨g, 0, none⟩)] w fun en w' => en = .returned (.agg (arr .i64 18 (oneR l e).1)) ∧ RdAt w' B g (oneR l e).2.1 (oneR l e).2.2 ∧ But g g w w' := by
  have hz18 := st_zero18
  have HR := Lib.hid h
  have hlt := h.lt
  clear h
  go_enter Tryd.func64, Tryd.ntmps64
  go_upto_region 1 with fail
  obtain ⟨w0, hw0⟩ : ∃ w0, w0 = w.alloc (.cells (arr .i64 18 fun _ => 0) 56) := ⟨_, rfl⟩
  rw [← hw0]
  have hA0 : ArrAt .i64 18 56 w0 w.heap.size (fun _ => 0) := by rw [hw0]; exact ArrAt.new w .i64 18 56 _
  have hb0 : Below w.heap.size w w0 := by rw [hw0]; exact (Below.refl _ _).alloc (Nat.le_refl _) _
  have hs0 : w0.heap.size = w.heap.size + 1 := by rw [hw0]; simp
  clear hw0
  go_wp2_with fail
  refine (number_code g B l e w0 (HR.out.keep hb0 hB) hB).mono ?_
  rintro en w1 ⟨rfl, hR1, hb1⟩
  have HR1 := Lib.hid hR1
  have HBt1 := Lib.hid ((But.ofBelow hb0 : But g g w w0).trans hb1)
  have hA1 : ArrAt .i64 18 56 w1 w.heap.size (fun _ => 0) := (hb1.block _ (by omega) (by omega) (by omega)).trans hA0
  have HA1 := Lib.hid hA1
  have hs1 : w.heap.size + 1 ≤ w1.heap.size := by have := hb1.size; omega
  clear hR1 hb1 hA0 hA1 hb0 hs0
  obtain ⟨n, hn⟩ : ∃ n, n = (numR l e).1 := ⟨_, rfl⟩
  rw [← hn]
  have HN := Lib.hid hn
  clear hn
  by_cases hr : n < 0 ∨ 4294967295 < n
  · have hf := fail_code g B _ _ 1 w1 HR1.out hB
    rw [errV_err (by decide)] at hf
    have HHE := Lib.hid (show headE n (numR l e).2.2 = keepE (numR l e).2.2 1 from if_pos hr)
    rw [← HHE.out] at hf
    by_cases h0 : n < 0
    · have hd0 : decide (n < 0) = true := decide_eq_true h0
      clear h0 hr
      go_wp2_with fail
      refine hf.mono ?_
      rintro en w2 ⟨rfl, hR2, hb2⟩
      have hB2 := HBt1.out.trans hb2
      have hA2 : ArrAt .i64 18 56 w2 w.heap.size (fun _ => 0) := (hb2.block _ (by omega) (by omega) (by omega)).trans HA1.out
      clear hf hb2
      have HR2 := Lib.hid hR2
      have HBt2 := Lib.hid hB2
      clear hR2 hB2
      obtain ⟨l2, hl2⟩ : ∃ l2, l2 = (numR l e).2.1 := ⟨_, rfl⟩
      rw [← hl2] at HR2
      have HL2 := Lib.hid hl2
      clear hl2
      obtain ⟨hd, hhd⟩ : ∃ hd, hd = headE n (numR l e).2.2 := ⟨_, rfl⟩
      rw [← hhd] at HR2
      have HHd := Lib.hid hhd
      clear hhd
      have hz9 := st_zero9
      have hlt2 := HR2.out.lt
      obtain ⟨w3, hw3⟩ : ∃ w3, w3 = w2.alloc (.cells (arr .i64 9 fun _ => 0) 25) := ⟨_, rfl⟩
      go_upto_region 5 with fail
      rw [← hw3]
      have hA3 : ArrAt .i64 9 25 w3 w2.heap.size (fun _ => 0) := by rw [hw3]; exact ArrAt.new w2 .i64 9 25 _
      have hb3 : Below w2.heap.size w2 w3 := by rw [hw3]; exact (Below.refl _ _).alloc (Nat.le_refl _) _
      have hR3 := HR2.out.keep hb3 hB
      have HBt3 := Lib.hid (HBt2.out.trans (But.ofBelow hb3))
      obtain ⟨h4, hh4⟩ : ∃ h4, h4 = w2.heap.size := ⟨_, rfl⟩
      rw [← hh4] at hA3 ⊢
      have hg4 : g ≠ h4 := by omega
      have hw4 : w.heap.size < h4 := by have := hA2.lt; omega
      have hA3' := (hA2.keep hb3)
      clear hh4 hw3 hb3 hA2
      go_wp2_with fail
      refine (fill_code g h4 B (fun f => arr .i64 9 f) 25 0 9 9 (fun _ => 0) l2 hd w3 hR3 hB (by have := HR.out.lt; omega) hg4 hA3 (fun f j hj => by rw [Nat.zero_add]; exact arr_get .i64 9 f hj) (fun f j x _ => by rw [Nat.zero_add]; exact arr_set ..) (by omega)).mono ?_
      rintro en w5 ⟨rfl, hR5, hA5, hb5⟩
      have hA2 : ArrAt .i64 18 56 w5 w.heap.size (fun _ => 0) := (hb5.block _ hA3'.lt (by omega) (by omega)).trans hA3'
      have HBt5 := Lib.hid (HBt3.out.inner hb5 (by omega))
      have hxl := fillR_len 9 l2 hd
      obtain ⟨xs, l5, e5, hq⟩ : ∃ xs l5 e5, fillR 9 l2 hd = (xs, l5, e5) := ⟨_, _, _, rfl⟩
      rw [hq] at hR5 hA5 hxl
      simp only at hR5 hA5 hxl
      rw [plF_all hxl] at hA5
      have HQ := Lib.hid hq
      have HR5 := Lib.hid hR5
      have hz5 : Below z.heap.size z w5 := HBt5.out.below hz (by omega) (by omega) (by omega)
      obtain ⟨r, hrr⟩ : ∃ r : Nat → Int, r = fun i => xs.getD i 0 := ⟨_, rfl⟩
      rw [← hrr] at hA5
      have HRr := Lib.hid hrr
      obtain ⟨x0, x1⟩ := u32_in n
      obtain ⟨x, hx⟩ : ∃ x, IntKind.u32.wrap n = x := ⟨_, rfl⟩
      rw [hx] at x0 x1
      have HX := Lib.hid hx
      have hsz9 : (Tryd.prog.info? 25).map (·.size) = some (arr .i64 9 r).size := by rw [arr_size]; exact st_size9
      clear hR5 hb5 hrr hq hxl hA3 hA3' hR3 HBt3 hz9
      go_wp2_with (refine wpList_load_row rfl 25 (.tmp 4) rfl h4 rfl 25 _ (0, 0) _ hA5 Tryd.underlying25 rfl hsz9 ?_)
      refine (object_any T.p T.o x r w5 x0 x1 hz5).mono ?_
      rintro en w6 ⟨hpost, hb6⟩
      clear hA5 hsz9 hz5
      have hA6 := hA2.keep hb6
      have HR6 := Lib.hid (HR5.out.keep hb6 hB)
      have HB6 := Lib.hid (HBt5.out.trans (But.ofBelow hb6))
      have HOb := Lib.hid (show oneR l e = (if x < 2097152 then objF x r else fun _ => 0, l5, keepE e5 (if x < 2097152 then 0 else 2)) by
        unfold oneR
        simp only
        rw [← HN.out, ← HL2.out, ← HHd.out, HQ.out, HX.out, HRr.out])
      clear hA2 hb6 HBt5 HQ
      rcases hpost with ⟨hx7, rfl⟩ | ⟨hx7, rfl⟩
      · have HOb2 := Lib.hid (show oneR l e = (objF x r, l5, keepE e5 0) by rw [HOb.out, if_pos hx7, if_pos hx7])
        obtain ⟨o, ho⟩ : ∃ o, o = objF x r := ⟨_, rfl⟩
        rw [← ho] at HOb2 ⊢
        clear HOb ho hx7
        have hz18 := st_zero18
        have hnew : (w6.alloc (.cells (arr .i64 18 fun _ => 0) 56)).heap[w6.heap.size]? = some (.cells (arr .i64 18 fun _ => 0) 56 (0, 0)) := heap_alloc_new _ _
        have hsx : (Tryd.prog.info? 56).map (·.size) = some (arr .i64 18 o).size := by rw [arr_size]; exact st_size18
        go_upto_region 7 with (refine wpList_store_row rfl 56 (.tmp 5) (.tmp 26) rfl w6.heap.size _ rfl rfl 56 (arr .i64 18 fun _ => 0) hnew hsx (by rw [arr_size, arr_size]) (arr_one .i64 18 o) ?_)
        obtain ⟨wn, hwn, hEn, hbn⟩ := ob_box w6 o
        rw [← hwn]
        have hAn := hA6.keep hbn
        have hlt6 : w.heap.size < w6.heap.size := hA6.lt
        have hgw : g < w6.heap.size := HR6.out.lt
        obtain ⟨h5, hh5⟩ : ∃ h5, h5 = w6.heap.size := ⟨_, rfl⟩
        rw [← hh5] at hEn ⊢
        have hn5 : h5 ≠ w.heap.size := by omega
        have hn6 : h5 ≠ g := by omega
        have hf := fail_code g B l5 e5 0 wn (HR6.out.keep hbn hB) hB
        rw [errV_nil] at hf
        have HBn := Lib.hid (HB6.out.trans (But.ofBelow hbn))
        have hl5 : h5 < wn.heap.size := (Array.getElem?_eq_some_iff.1 hEn).1
        clear hwn hnew hh5 hbn hA6 hlt6 hgw
        go_wp2_with fail
        refine hf.mono ?_
        rintro en w8 ⟨rfl, hR8, hb8⟩
        have HR8 := Lib.hid hR8
        have HB8 := Lib.hid (HBn.out.trans hb8)
        have hE8 : ObAt w8 h5 o := (hb8.block _ hl5 hn6 hn6).trans hEn
        have hA8 : w8.heap[w.heap.size]? = some (.cells (arr .i64 18 fun _ => 0) 56 (0, 0)) := (hb8.block _ hAn.lt (by omega) (by omega)).trans hAn
        clear hf hR8 hb8 hEn hAn
        go_wp2_with (first
          | (refine wpList_load_row rfl 56 (.tmp 5) rfl h5 rfl 56 _ (0, 0) _ hE8 Tryd.underlying56 rfl hsx ?_)
          | (refine wpList_store_row rfl 56 (.tmp 2) (.tmp 31) rfl w.heap.size _ rfl rfl 56 (arr .i64 18 fun _ => 0) hA8 hsx (by rw [arr_size, arr_size]) (arr_one .i64 18 o) ?_))
        refine bodyPost_ret (v := .agg (arr .i64 18 o)) ?_ rfl ⟨by rw [HOb2.out], ?_, ?_⟩
        · exact results_cellR (ty := 56) (p := 2) (by kernel_rfl) _ _ w.heap.size 56 _ (0, 0) _ rfl (setRow_heap _ _ _ _ _ _ hA8) Tryd.underlying56 rfl hsx
        · rw [HOb2.out]
          exact HR8.out.other (fun k hk => setRow_other _ _ _ _ (by omega)) (setRow_other _ _ _ _ (by omega))
        · exact HB8.out.inner (w' := w8.setRow w.heap.size (arr .i64 18 o)) (h := w.heap.size) ⟨rfl, rfl, rfl, by simp, fun k _ _ h2 => setRow_other _ _ _ _ h2⟩ (Nat.le_refl _)
      · have HOb2 := Lib.hid (show oneR l e = (fun _ => 0, l5, keepE e5 2) by rw [HOb.out, if_neg (by omega), if_neg (by omega)])
        obtain ⟨o, ho⟩ : ∃ o : Nat → Int, o = fun _ => 0 := ⟨_, rfl⟩
        rw [← ho] at HOb2 ⊢
        clear HOb ho hx7
        have hz18 := st_zero18
        have hnew : (w6.alloc (.cells (arr .i64 18 fun _ => 0) 56)).heap[w6.heap.size]? = some (.cells (arr .i64 18 fun _ => 0) 56 (0, 0)) := heap_alloc_new _ _
        have hsx : (Tryd.prog.info? 56).map (·.size) = some (arr .i64 18 o).size := by rw [arr_size]; exact st_size18
        go_upto_region 7 with (refine wpList_store_row rfl 56 (.tmp 5) (.tmp 26) rfl w6.heap.size _ rfl rfl 56 (arr .i64 18 fun _ => 0) hnew hsx (by rw [arr_size, arr_size]) (arr_one .i64 18 o) ?_)
        obtain ⟨wn, hwn, hEn, hbn⟩ := ob_box w6 o
        rw [← hwn]
        have hAn := hA6.keep hbn
        have hlt6 : w.heap.size < w6.heap.size := hA6.lt
        have hgw : g < w6.heap.size := HR6.out.lt
        obtain ⟨h5, hh5⟩ : ∃ h5, h5 = w6.heap.size := ⟨_, rfl⟩
        rw [← hh5] at hEn ⊢
        have hn5 : h5 ≠ w.heap.size := by omega
        have hn6 : h5 ≠ g := by omega
        have hf := fail_code g B l5 e5 2 wn (HR6.out.keep hbn hB) hB
        rw [errV_err (by decide)] at hf
        have HBn := Lib.hid (HB6.out.trans (But.ofBelow hbn))
        have hl5 : h5 < wn.heap.size := (Array.getElem?_eq_some_iff.1 hEn).1
        clear hwn hnew hh5 hbn hA6 hlt6 hgw
        go_wp2_with fail
        refine hf.mono ?_
        rintro en w8 ⟨rfl, hR8, hb8⟩
        have HR8 := Lib.hid hR8
        have HB8 := Lib.hid (HBn.out.trans hb8)
        have hE8 : ObAt w8 h5 o := (hb8.block _ hl5 hn6 hn6).trans hEn
        have hA8 : w8.heap[w.heap.size]? = some (.cells (arr .i64 18 fun _ => 0) 56 (0, 0)) := (hb8.block _ hAn.lt (by omega) (by omega)).trans hAn
        clear hf hR8 hb8 hEn hAn
        go_wp2_with (first
          | (refine wpList_load_row rfl 56 (.tmp 5) rfl h5 rfl 56 _ (0, 0) _ hE8 Tryd.underlying56 rfl hsx ?_)
          | (refine wpList_store_row rfl 56 (.tmp 2) (.tmp 31) rfl w.heap.size _ rfl rfl 56 (arr .i64 18 fun _ => 0) hA8 hsx (by rw [arr_size, arr_size]) (arr_one .i64 18 o) ?_))
        refine bodyPost_ret (v := .agg (arr .i64 18 o)) ?_ rfl ⟨by rw [HOb2.out], ?_, ?_⟩
        · exact results_cellR (ty := 56) (p := 2) (by kernel_rfl) _ _ w.heap.size 56 _ (0, 0) _ rfl (setRow_heap _ _ _ _ _ _ hA8) Tryd.underlying56 rfl hsx
        · rw [HOb2.out]
          exact HR8.out.other (fun k hk => setRow_other _ _ _ _ (by omega)) (setRow_other _ _ _ _ (by omega))
        · exact HB8.out.inner (w' := w8.setRow w.heap.size (arr .i64 18 o)) (h := w.heap.size) ⟨rfl, rfl, rfl, by simp, fun k _ _ h2 => setRow_other _ _ _ _ h2⟩ (Nat.le_refl _)
    · have hd0 : decide (n < 0) = false := decide_eq_false h0
      have hd1 : decide (4294967295 < n) = true := decide_eq_true (by omega)
      clear h0 hr
      go_wp2_with fail
      refine hf.mono ?_
      rintro en w2 ⟨rfl, hR2, hb2⟩
      have hB2 := HBt1.out.trans hb2
      have hA2 : ArrAt .i64 18 56 w2 w.heap.size (fun _ => 0) := (hb2.block _ (by omega) (by omega) (by omega)).trans HA1.out
      clear hf hb2
      have HR2 := Lib.hid hR2
      have HBt2 := Lib.hid hB2
      clear hR2 hB2
      obtain ⟨l2, hl2⟩ : ∃ l2, l2 = (numR l e).2.1 := ⟨_, rfl⟩
      rw [← hl2] at HR2
      have HL2 := Lib.hid hl2
      clear hl2
      obtain ⟨hd, hhd⟩ : ∃ hd, hd = headE n (numR l e).2.2 := ⟨_, rfl⟩
      rw [← hhd] at HR2
      have HHd := Lib.hid hhd
      clear hhd
      have hz9 := st_zero9
      have hlt2 := HR2.out.lt
      obtain ⟨w3, hw3⟩ : ∃ w3, w3 = w2.alloc (.cells (arr .i64 9 fun _ => 0) 25) := ⟨_, rfl⟩
      go_upto_region 5 with fail
      rw [← hw3]
      have hA3 : ArrAt .i64 9 25 w3 w2.heap.size (fun _ => 0) := by rw [hw3]; exact ArrAt.new w2 .i64 9 25 _
      have hb3 : Below w2.heap.size w2 w3 := by rw [hw3]; exact (Below.refl _ _).alloc (Nat.le_refl _) _
      have hR3 := HR2.out.keep hb3 hB
      have HBt3 := Lib.hid (HBt2.out.trans (But.ofBelow hb3))
      obtain ⟨h4, hh4⟩ : ∃ h4, h4 = w2.heap.size := ⟨_, rfl⟩
      rw [← hh4] at hA3 ⊢
      have hg4 : g ≠ h4 := by omega
      have hw4 : w.heap.size < h4 := by have := hA2.lt; omega
      have hA3' := (hA2.keep hb3)
      clear hh4 hw3 hb3 hA2
      go_wp2_with fail
      refine (fill_code g h4 B (fun f => arr .i64 9 f) 25 0 9 9 (fun _ => 0) l2 hd w3 hR3 hB (by have := HR.out.lt; omega) hg4 hA3 (fun f j hj => by rw [Nat.zero_add]; exact arr_get .i64 9 f hj) (fun f j x _ => by rw [Nat.zero_add]; exact arr_set ..) (by omega)).mono ?_
      rintro en w5 ⟨rfl, hR5, hA5, hb5⟩
      have hA2 : ArrAt .i64 18 56 w5 w.heap.size (fun _ => 0) := (hb5.block _ hA3'.lt (by omega) (by omega)).trans hA3'
      have HBt5 := Lib.hid (HBt3.out.inner hb5 (by omega))
      have hxl := fillR_len 9 l2 hd
      obtain ⟨xs, l5, e5, hq⟩ : ∃ xs l5 e5, fillR 9 l2 hd = (xs, l5, e5) := ⟨_, _, _, rfl⟩
      rw [hq] at hR5 hA5 hxl
      simp only at hR5 hA5 hxl
      rw [plF_all hxl] at hA5
      have HQ := Lib.hid hq
      have HR5 := Lib.hid hR5
      have hz5 : Below z.heap.size z w5 := HBt5.out.below hz (by omega) (by omega) (by omega)
      obtain ⟨r, hrr⟩ : ∃ r : Nat → Int, r = fun i => xs.getD i 0 := ⟨_, rfl⟩
      rw [← hrr] at hA5
      have HRr := Lib.hid hrr
      obtain ⟨x0, x1⟩ := u32_in n
      obtain ⟨x, hx⟩ : ∃ x, IntKind.u32.wrap n = x := ⟨_, rfl⟩
      rw [hx] at x0 x1
      have HX := Lib.hid hx
      have hsz9 : (Tryd.prog.info? 25).map (·.size) = some (arr .i64 9 r).size := by rw [arr_size]; exact st_size9
      clear hR5 hb5 hrr hq hxl hA3 hA3' hR3 HBt3 hz9
      go_wp2_with (refine wpList_load_row rfl 25 (.tmp 4) rfl h4 rfl 25 _ (0, 0) _ hA5 Tryd.underlying25 rfl hsz9 ?_)
      refine (object_any T.p T.o x r w5 x0 x1 hz5).mono ?_
      rintro en w6 ⟨hpost, hb6⟩
      clear hA5 hsz9 hz5
      have hA6 := hA2.keep hb6
      have HR6 := Lib.hid (HR5.out.keep hb6 hB)
      have HB6 := Lib.hid (HBt5.out.trans (But.ofBelow hb6))
      have HOb := Lib.hid (show oneR l e = (if x < 2097152 then objF x r else fun _ => 0, l5, keepE e5 (if x < 2097152 then 0 else 2)) by
        unfold oneR
        simp only
        rw [← HN.out, ← HL2.out, ← HHd.out, HQ.out, HX.out, HRr.out])
      clear hA2 hb6 HBt5 HQ
      rcases hpost with ⟨hx7, rfl⟩ | ⟨hx7, rfl⟩
      · have HOb2 := Lib.hid (show oneR l e = (objF x r, l5, keepE e5 0) by rw [HOb.out, if_pos hx7, if_pos hx7])
        obtain ⟨o, ho⟩ : ∃ o, o = objF x r := ⟨_, rfl⟩
        rw [← ho] at HOb2 ⊢
        clear HOb ho hx7
        have hz18 := st_zero18
        have hnew : (w6.alloc (.cells (arr .i64 18 fun _ => 0) 56)).heap[w6.heap.size]? = some (.cells (arr .i64 18 fun _ => 0) 56 (0, 0)) := heap_alloc_new _ _
        have hsx : (Tryd.prog.info? 56).map (·.size) = some (arr .i64 18 o).size := by rw [arr_size]; exact st_size18
        go_upto_region 7 with (refine wpList_store_row rfl 56 (.tmp 5) (.tmp 26) rfl w6.heap.size _ rfl rfl 56 (arr .i64 18 fun _ => 0) hnew hsx (by rw [arr_size, arr_size]) (arr_one .i64 18 o) ?_)
        obtain ⟨wn, hwn, hEn, hbn⟩ := ob_box w6 o
        rw [← hwn]
        have hAn := hA6.keep hbn
        have hlt6 : w.heap.size < w6.heap.size := hA6.lt
        have hgw : g < w6.heap.size := HR6.out.lt
        obtain ⟨h5, hh5⟩ : ∃ h5, h5 = w6.heap.size := ⟨_, rfl⟩
        rw [← hh5] at hEn ⊢
        have hn5 : h5 ≠ w.heap.size := by omega
        have hn6 : h5 ≠ g := by omega
        have hf := fail_code g B l5 e5 0 wn (HR6.out.keep hbn hB) hB
        rw [errV_nil] at hf
        have HBn := Lib.hid (HB6.out.trans (But.ofBelow hbn))
        have hl5 : h5 < wn.heap.size := (Array.getElem?_eq_some_iff.1 hEn).1
        clear hwn hnew hh5 hbn hA6 hlt6 hgw
        go_wp2_with fail
        refine hf.mono ?_
        rintro en w8 ⟨rfl, hR8, hb8⟩
        have HR8 := Lib.hid hR8
        have HB8 := Lib.hid (HBn.out.trans hb8)
        have hE8 : ObAt w8 h5 o := (hb8.block _ hl5 hn6 hn6).trans hEn
        have hA8 : w8.heap[w.heap.size]? = some (.cells (arr .i64 18 fun _ => 0) 56 (0, 0)) := (hb8.block _ hAn.lt (by omega) (by omega)).trans hAn
        clear hf hR8 hb8 hEn hAn
        go_wp2_with (first
          | (refine wpList_load_row rfl 56 (.tmp 5) rfl h5 rfl 56 _ (0, 0) _ hE8 Tryd.underlying56 rfl hsx ?_)
          | (refine wpList_store_row rfl 56 (.tmp 2) (.tmp 31) rfl w.heap.size _ rfl rfl 56 (arr .i64 18 fun _ => 0) hA8 hsx (by rw [arr_size, arr_size]) (arr_one .i64 18 o) ?_))
        refine bodyPost_ret (v := .agg (arr .i64 18 o)) ?_ rfl ⟨by rw [HOb2.out], ?_, ?_⟩
        · exact results_cellR (ty := 56) (p := 2) (by kernel_rfl) _ _ w.heap.size 56 _ (0, 0) _ rfl (setRow_heap _ _ _ _ _ _ hA8) Tryd.underlying56 rfl hsx
        · rw [HOb2.out]
          exact HR8.out.other (fun k hk => setRow_other _ _ _ _ (by omega)) (setRow_other _ _ _ _ (by omega))
        · exact HB8.out.inner (w' := w8.setRow w.heap.size (arr .i64 18 o)) (h := w.heap.size) ⟨rfl, rfl, rfl, by simp, fun k _ _ h2 => setRow_other _ _ _ _ h2⟩ (Nat.le_refl _)
      · have HOb2 := Lib.hid (show oneR l e = (fun _ => 0, l5, keepE e5 2) by rw [HOb.out, if_neg (by omega), if_neg (by omega)])
        obtain ⟨o, ho⟩ : ∃ o : Nat → Int, o = fun _ => 0 := ⟨_, rfl⟩
        rw [← ho] at HOb2 ⊢
        clear HOb ho hx7
        have hz18 := st_zero18
        have hnew : (w6.alloc (.cells (arr .i64 18 fun _ => 0) 56)).heap[w6.heap.size]? = some (.cells (arr .i64 18 fun _ => 0) 56 (0, 0)) := heap_alloc_new _ _
        have hsx : (Tryd.prog.info? 56).map (·.size) = some (arr .i64 18 o).size := by rw [arr_size]; exact st_size18
        go_upto_region 7 with (refine wpList_store_row rfl 56 (.tmp 5) (.tmp 26) rfl w6.heap.size _ rfl rfl 56 (arr .i64 18 fun _ => 0) hnew hsx (by rw [arr_size, arr_size]) (arr_one .i64 18 o) ?_)
        obtain ⟨wn, hwn, hEn, hbn⟩ := ob_box w6 o
        rw [← hwn]
        have hAn := hA6.keep hbn
        have hlt6 : w.heap.size < w6.heap.size := hA6.lt
        have hgw : g < w6.heap.size := HR6.out.lt
        obtain ⟨h5, hh5⟩ : ∃ h5, h5 = w6.heap.size := ⟨_, rfl⟩
        rw [← hh5] at hEn ⊢
        have hn5 : h5 ≠ w.heap.size := by omega
        have hn6 : h5 ≠ g := by omega
        have hf := fail_code g B l5 e5 2 wn (HR6.out.keep hbn hB) hB
        rw [errV_err (by decide)] at hf
        have HBn := Lib.hid (HB6.out.trans (But.ofBelow hbn))
        have hl5 : h5 < wn.heap.size := (Array.getElem?_eq_some_iff.1 hEn).1
        clear hwn hnew hh5 hbn hA6 hlt6 hgw
        go_wp2_with fail
        refine hf.mono ?_
        rintro en w8 ⟨rfl, hR8, hb8⟩
        have HR8 := Lib.hid hR8
        have HB8 := Lib.hid (HBn.out.trans hb8)
        have hE8 : ObAt w8 h5 o := (hb8.block _ hl5 hn6 hn6).trans hEn
        have hA8 : w8.heap[w.heap.size]? = some (.cells (arr .i64 18 fun _ => 0) 56 (0, 0)) := (hb8.block _ hAn.lt (by omega) (by omega)).trans hAn
        clear hf hR8 hb8 hEn hAn
        go_wp2_with (first
          | (refine wpList_load_row rfl 56 (.tmp 5) rfl h5 rfl 56 _ (0, 0) _ hE8 Tryd.underlying56 rfl hsx ?_)
          | (refine wpList_store_row rfl 56 (.tmp 2) (.tmp 31) rfl w.heap.size _ rfl rfl 56 (arr .i64 18 fun _ => 0) hA8 hsx (by rw [arr_size, arr_size]) (arr_one .i64 18 o) ?_))
        refine bodyPost_ret (v := .agg (arr .i64 18 o)) ?_ rfl ⟨by rw [HOb2.out], ?_, ?_⟩
        · exact results_cellR (ty := 56) (p := 2) (by kernel_rfl) _ _ w.heap.size 56 _ (0, 0) _ rfl (setRow_heap _ _ _ _ _ _ hA8) Tryd.underlying56 rfl hsx
        · rw [HOb2.out]
          exact HR8.out.other (fun k hk => setRow_other _ _ _ _ (by omega)) (setRow_other _ _ _ _ (by omega))
        · exact HB8.out.inner (w' := w8.setRow w.heap.size (arr .i64 18 o)) (h := w.heap.size) ⟨rfl, rfl, rfl, by simp, fun k _ _ h2 => setRow_other _ _ _ _ h2⟩ (Nat.le_refl _)
  · have hd0 : decide (n < 0) = false := decide_eq_false (by omega)
    have hd1 : decide (4294967295 < n) = false := decide_eq_false (by omega)
    have hR2 := HR1.out
    rw [show (numR l e).2.2 = headE n (numR l e).2.2 from (if_neg hr).symm] at hR2
    have hB2 := HBt1.out
    have hA2 := HA1.out
    obtain ⟨w2, hw2⟩ : ∃ w2, w2 = w1 := ⟨_, rfl⟩
    rw [← hw2] at hR2 hB2 hA2 ⊢
    clear hw2
    have HR2 := Lib.hid hR2
    have HBt2 := Lib.hid hB2
    clear hR2 hB2
    obtain ⟨l2, hl2⟩ : ∃ l2, l2 = (numR l e).2.1 := ⟨_, rfl⟩
    rw [← hl2] at HR2
    have HL2 := Lib.hid hl2
    clear hl2
    obtain ⟨hd, hhd⟩ : ∃ hd, hd = headE n (numR l e).2.2 := ⟨_, rfl⟩
    rw [← hhd] at HR2
    have HHd := Lib.hid hhd
    clear hhd
    have hz9 := st_zero9
    have hlt2 := HR2.out.lt
    obtain ⟨w3, hw3⟩ : ∃ w3, w3 = w2.alloc (.cells (arr .i64 9 fun _ => 0) 25) := ⟨_, rfl⟩
    go_upto_region 5 with fail
    rw [← hw3]
    have hA3 : ArrAt .i64 9 25 w3 w2.heap.size (fun _ => 0) := by rw [hw3]; exact ArrAt.new w2 .i64 9 25 _
    have hb3 : Below w2.heap.size w2 w3 := by rw [hw3]; exact (Below.refl _ _).alloc (Nat.le_refl _) _
    have hR3 := HR2.out.keep hb3 hB
    have HBt3 := Lib.hid (HBt2.out.trans (But.ofBelow hb3))
    obtain ⟨h4, hh4⟩ : ∃ h4, h4 = w2.heap.size := ⟨_, rfl⟩
    rw [← hh4] at hA3 ⊢
    have hg4 : g ≠ h4 := by omega
    have hw4 : w.heap.size < h4 := by have := hA2.lt; omega
    have hA3' := (hA2.keep hb3)
    clear hh4 hw3 hb3 hA2
    go_wp2_with fail
    refine (fill_code g h4 B (fun f => arr .i64 9 f) 25 0 9 9 (fun _ => 0) l2 hd w3 hR3 hB (by have := HR.out.lt; omega) hg4 hA3 (fun f j hj => by rw [Nat.zero_add]; exact arr_get .i64 9 f hj) (fun f j x _ => by rw [Nat.zero_add]; exact arr_set ..) (by omega)).mono ?_
    rintro en w5 ⟨rfl, hR5, hA5, hb5⟩
    have hA2 : ArrAt .i64 18 56 w5 w.heap.size (fun _ => 0) := (hb5.block _ hA3'.lt (by omega) (by omega)).trans hA3'
    have HBt5 := Lib.hid (HBt3.out.inner hb5 (by omega))
    have hxl := fillR_len 9 l2 hd
    obtain ⟨xs, l5, e5, hq⟩ : ∃ xs l5 e5, fillR 9 l2 hd = (xs, l5, e5) := ⟨_, _, _, rfl⟩
    rw [hq] at hR5 hA5 hxl
    simp only at hR5 hA5 hxl
    rw [plF_all hxl] at hA5
    have HQ := Lib.hid hq
    have HR5 := Lib.hid hR5
    have hz5 : Below z.heap.size z w5 := HBt5.out.below hz (by omega) (by omega) (by omega)
    obtain ⟨r, hrr⟩ : ∃ r : Nat → Int, r = fun i => xs.getD i 0 := ⟨_, rfl⟩
    rw [← hrr] at hA5
    have HRr := Lib.hid hrr
    obtain ⟨x0, x1⟩ := u32_in n
    obtain ⟨x, hx⟩ : ∃ x, IntKind.u32.wrap n = x := ⟨_, rfl⟩
    rw [hx] at x0 x1
    have HX := Lib.hid hx
    have hsz9 : (Tryd.prog.info? 25).map (·.size) = some (arr .i64 9 r).size := by rw [arr_size]; exact st_size9
    clear hR5 hb5 hrr hq hxl hA3 hA3' hR3 HBt3 hz9
    go_wp2_with (refine wpList_load_row rfl 25 (.tmp 4) rfl h4 rfl 25 _ (0, 0) _ hA5 Tryd.underlying25 rfl hsz9 ?_)
    refine (object_any T.p T.o x r w5 x0 x1 hz5).mono ?_
    rintro en w6 ⟨hpost, hb6⟩
    clear hA5 hsz9 hz5
    have hA6 := hA2.keep hb6
    have HR6 := Lib.hid (HR5.out.keep hb6 hB)
    have HB6 := Lib.hid (HBt5.out.trans (But.ofBelow hb6))
    have HOb := Lib.hid (show oneR l e = (if x < 2097152 then objF x r else fun _ => 0, l5, keepE e5 (if x < 2097152 then 0 else 2)) by
      unfold oneR
      simp only
      rw [← HN.out, ← HL2.out, ← HHd.out, HQ.out, HX.out, HRr.out])
    clear hA2 hb6 HBt5 HQ
    rcases hpost with ⟨hx7, rfl⟩ | ⟨hx7, rfl⟩
    · have HOb2 := Lib.hid (show oneR l e = (objF x r, l5, keepE e5 0) by rw [HOb.out, if_pos hx7, if_pos hx7])
      obtain ⟨o, ho⟩ : ∃ o, o = objF x r := ⟨_, rfl⟩
      rw [← ho] at HOb2 ⊢
      clear HOb ho hx7
      have hz18 := st_zero18
      have hnew : (w6.alloc (.cells (arr .i64 18 fun _ => 0) 56)).heap[w6.heap.size]? = some (.cells (arr .i64 18 fun _ => 0) 56 (0, 0)) := heap_alloc_new _ _
      have hsx : (Tryd.prog.info? 56).map (·.size) = some (arr .i64 18 o).size := by rw [arr_size]; exact st_size18
      go_upto_region 7 with (refine wpList_store_row rfl 56 (.tmp 5) (.tmp 26) rfl w6.heap.size _ rfl rfl 56 (arr .i64 18 fun _ => 0) hnew hsx (by rw [arr_size, arr_size]) (arr_one .i64 18 o) ?_)
      obtain ⟨wn, hwn, hEn, hbn⟩ := ob_box w6 o
      rw [← hwn]
      have hAn := hA6.keep hbn
      have hlt6 : w.heap.size < w6.heap.size := hA6.lt
      have hgw : g < w6.heap.size := HR6.out.lt
      obtain ⟨h5, hh5⟩ : ∃ h5, h5 = w6.heap.size := ⟨_, rfl⟩
      rw [← hh5] at hEn ⊢
      have hn5 : h5 ≠ w.heap.size := by omega
      have hn6 : h5 ≠ g := by omega
      have hf := fail_code g B l5 e5 0 wn (HR6.out.keep hbn hB) hB
      rw [errV_nil] at hf
      have HBn := Lib.hid (HB6.out.trans (But.ofBelow hbn))
      have hl5 : h5 < wn.heap.size := (Array.getElem?_eq_some_iff.1 hEn).1
      clear hwn hnew hh5 hbn hA6 hlt6 hgw
      go_wp2_with fail
      refine hf.mono ?_
      rintro en w8 ⟨rfl, hR8, hb8⟩
      have HR8 := Lib.hid hR8
      have HB8 := Lib.hid (HBn.out.trans hb8)
      have hE8 : ObAt w8 h5 o := (hb8.block _ hl5 hn6 hn6).trans hEn
      have hA8 : w8.heap[w.heap.size]? = some (.cells (arr .i64 18 fun _ => 0) 56 (0, 0)) := (hb8.block _ hAn.lt (by omega) (by omega)).trans hAn
      clear hf hR8 hb8 hEn hAn
      go_wp2_with (first
        | (refine wpList_load_row rfl 56 (.tmp 5) rfl h5 rfl 56 _ (0, 0) _ hE8 Tryd.underlying56 rfl hsx ?_)
        | (refine wpList_store_row rfl 56 (.tmp 2) (.tmp 31) rfl w.heap.size _ rfl rfl 56 (arr .i64 18 fun _ => 0) hA8 hsx (by rw [arr_size, arr_size]) (arr_one .i64 18 o) ?_))
      refine bodyPost_ret (v := .agg (arr .i64 18 o)) ?_ rfl ⟨by rw [HOb2.out], ?_, ?_⟩
      · exact results_cellR (ty := 56) (p := 2) (by kernel_rfl) _ _ w.heap.size 56 _ (0, 0) _ rfl (setRow_heap _ _ _ _ _ _ hA8) Tryd.underlying56 rfl hsx
      · rw [HOb2.out]
        exact HR8.out.other (fun k hk => setRow_other _ _ _ _ (by omega)) (setRow_other _ _ _ _ (by omega))
      · exact HB8.out.inner (w' := w8.setRow w.heap.size (arr .i64 18 o)) (h := w.heap.size) ⟨rfl, rfl, rfl, by simp, fun k _ _ h2 => setRow_other _ _ _ _ h2⟩ (Nat.le_refl _)
    · have HOb2 := Lib.hid (show oneR l e = (fun _ => 0, l5, keepE e5 2) by rw [HOb.out, if_neg (by omega), if_neg (by omega)])
      obtain ⟨o, ho⟩ : ∃ o : Nat → Int, o = fun _ => 0 := ⟨_, rfl⟩
      rw [← ho] at HOb2 ⊢
      clear HOb ho hx7
      have hz18 := st_zero18
      have hnew : (w6.alloc (.cells (arr .i64 18 fun _ => 0) 56)).heap[w6.heap.size]? = some (.cells (arr .i64 18 fun _ => 0) 56 (0, 0)) := heap_alloc_new _ _
      have hsx : (Tryd.prog.info? 56).map (·.size) = some (arr .i64 18 o).size := by rw [arr_size]; exact st_size18
      go_upto_region 7 with (refine wpList_store_row rfl 56 (.tmp 5) (.tmp 26) rfl w6.heap.size _ rfl rfl 56 (arr .i64 18 fun _ => 0) hnew hsx (by rw [arr_size, arr_size]) (arr_one .i64 18 o) ?_)
      obtain ⟨wn, hwn, hEn, hbn⟩ := ob_box w6 o
      rw [← hwn]
      have hAn := hA6.keep hbn
      have hlt6 : w.heap.size < w6.heap.size := hA6.lt
      have hgw : g < w6.heap.size := HR6.out.lt
      obtain ⟨h5, hh5⟩ : ∃ h5, h5 = w6.heap.size := ⟨_, rfl⟩
      rw [← hh5] at hEn ⊢
      have hn5 : h5 ≠ w.heap.size := by omega
      have hn6 : h5 ≠ g := by omega
      have hf := fail_code g B l5 e5 2 wn (HR6.out.keep hbn hB) hB
      rw [errV_err (by decide)] at hf
      have HBn := Lib.hid (HB6.out.trans (But.ofBelow hbn))
      have hl5 : h5 < wn.heap.size := (Array.getElem?_eq_some_iff.1 hEn).1
      clear hwn hnew hh5 hbn hA6 hlt6 hgw
      go_wp2_with fail
      refine hf.mono ?_
      rintro en w8 ⟨rfl, hR8, hb8⟩
      have HR8 := Lib.hid hR8
      have HB8 := Lib.hid (HBn.out.trans hb8)
      have hE8 : ObAt w8 h5 o := (hb8.block _ hl5 hn6 hn6).trans hEn
      have hA8 : w8.heap[w.heap.size]? = some (.cells (arr .i64 18 fun _ => 0) 56 (0, 0)) := (hb8.block _ hAn.lt (by omega) (by omega)).trans hAn
      clear hf hR8 hb8 hEn hAn
      go_wp2_with (first
        | (refine wpList_load_row rfl 56 (.tmp 5) rfl h5 rfl 56 _ (0, 0) _ hE8 Tryd.underlying56 rfl hsx ?_)
        | (refine wpList_store_row rfl 56 (.tmp 2) (.tmp 31) rfl w.heap.size _ rfl rfl 56 (arr .i64 18 fun _ => 0) hA8 hsx (by rw [arr_size, arr_size]) (arr_one .i64 18 o) ?_))
      refine bodyPost_ret (v := .agg (arr .i64 18 o)) ?_ rfl ⟨by rw [HOb2.out], ?_, ?_⟩
      · exact results_cellR (ty := 56) (p := 2) (by kernel_rfl) _ _ w.heap.size 56 _ (0, 0) _ rfl (setRow_heap _ _ _ _ _ _ hA8) Tryd.underlying56 rfl hsx
      · rw [HOb2.out]
        exact HR8.out.other (fun k hk => setRow_other _ _ _ _ (by omega)) (setRow_other _ _ _ _ (by omega))
      · exact HB8.out.inner (w' := w8.setRow w.heap.size (arr .i64 18 o)) (h := w.heap.size) ⟨rfl, rfl, rfl, by simp, fun k _ _ h2 => setRow_other _ _ _ _ h2⟩ (Nat.le_refl _)
end Go.Proofs.YtihbdbgmijkjmaaDoor
