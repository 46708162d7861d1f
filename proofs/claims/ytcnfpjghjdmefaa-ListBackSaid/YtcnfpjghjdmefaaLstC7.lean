/- Layer 9: the library's Sorted; the code's Once; all that the code's calls answer. -/
import Derived.Test.YtcnfpjghjdmefaaLstC6
import Derived.Test.YtcnfpjghjdmefaaLstShelf
import Derived.Lib.SlKeysI
namespace Go.Proofs.Ytcnfpjghjdmefaa
open Go.RowKit Go.Shelf Ex Go.Sort
set_option maxRecDepth 100000
namespace Ex
def sortL (l : List Int) : List Int := l.mergeSort fun x y => decide (x ≤ y)
theorem sort_len (l : List Int) : (sortL l).length = l.length := List.length_mergeSort _
theorem sort_nodup (l : List Int) : (sortL l).Nodup ↔ l.Nodup := (List.mergeSort_perm l _).nodup_iff
theorem sort_up (l : List Int) : (sortL l).Pairwise (· ≤ ·) := by
  have h := List.pairwise_mergeSort (le := fun x y : Int => decide (x ≤ y)) (fun a b c h1 h2 => by simp at *; omega) (fun a b => by simp; omega) l
  exact h.imp (fun h => by simpa using h)
theorem filter_full {α : Type} {p : α → Bool} : ∀ {l : List α}, (l.filter p).length = l.length → ∀ x ∈ l, p x = true
  | [], _, x, hx => by simp at hx
  | y :: l, h, x, hx => by
    have hle := List.length_filter_le p l
    rw [List.filter_cons] at h
    split at h
    · rename_i hy
      rcases List.mem_cons.1 hx with rfl | hx
      · exact hy
      · exact filter_full (by simpa using h) x hx
    · simp at h; omega
theorem compact_once {zs : List Int} (hs : zs.Pairwise (· ≤ ·)) : (Lib.compact zs).length = zs.length ↔ zs.Nodup := by
  rw [List.pairwise_iff_getElem] at hs
  constructor
  · intro h
    have hk : ∀ j, j < zs.length → Lib.keeps zs.toArray j = true := fun j hj => filter_full (p := Lib.keeps zs.toArray) (l := List.range zs.length) (by unfold Lib.compact Lib.compactUpTo at h; simpa using h) j (List.mem_range.2 hj)
    unfold List.Nodup
    rw [List.pairwise_iff_getElem]
    intro i j hi hj hij e
    have h1 := hk j hj
    unfold Lib.keeps at h1
    have h2 := of_decide_eq_true h1
    rcases h2 with h2 | h2
    · omega
    · apply h2
      rw [getElem!_pos zs.toArray j (by simpa using hj), getElem!_pos zs.toArray (j - 1) (by simp; omega)]
      simp only [List.getElem_toArray]
      have h3 := hs (j - 1) j (by omega) hj (by omega)
      by_cases e2 : i = j - 1
      · subst e2; exact e.symm
      · have h4 := hs i (j - 1) hi (by omega) (by omega)
        omega
  · intro hn
    rw [Lib.compact_all]
    intro j hj
    unfold Lib.keeps
    refine decide_eq_true ?_
    by_cases e : j = 0
    · exact .inl e
    · refine .inr ?_
      rw [getElem!_pos zs.toArray j (by simpa using hj), getElem!_pos zs.toArray (j - 1) (by simp; omega)]
      simp only [List.getElem_toArray]
      intro e2
      unfold List.Nodup at hn
      rw [List.pairwise_iff_getElem] at hn
      exact hn (j - 1) j (by omega) hj (by omega) e2.symm
end Ex
/-- A list of the call's own is nil, or lies in a block. -/
theorem Own.cases_ {w : World} {base n c : Nat} {A : Option Addr} {l : List Int} (h : Own .i64 3 w base A n c l) :
    (A = none ∧ n = 0 ∧ c = 0 ∧ l = []) ∨ ∃ g cur, A = some ⟨g, 0, none⟩ ∧ base ≤ g ∧ w.heap[g]? = some (.cells cur 3 (0, 0)) ∧ n ≤ c ∧ c ≤ maxLen ∧ cur.size = c * 1 ∧ cur.toList.take l.length = l.map encZ := by
  have hl := h.1
  rcases h.2.2 with ⟨hv, hn⟩ | ⟨g, cap, cur, hv, hb, hg, h1, h2, h3, h4⟩
  · injection hv with e1 e2 e3
    exact .inl ⟨e1, e2, e3, List.eq_nil_of_length_eq_zero (by omega)⟩
  · injection hv with e1 e2 e3
    subst e1 e3
    exact .inr ⟨g, cur, rfl, hb, hg, h1, h2, h3, by rw [hl]; simpa using h4⟩
theorem sort_any (A : Option Addr) (n c base : Nat) (xs : List Int) (w : World) (hn : n ≤ 1000000) (ho : Own .i64 3 w base A n c xs) (hbase : base ≤ w.heap.size) :
    Calls Try.prog 33 #[.slice A n c] w fun e w' => e = .returned (.tuple #[]) ∧ Own .i64 3 w' base A n c (sortL xs) ∧ ∀ z : World, Below base z w → Below base z w' := by
  have hl := ho.1
  rcases ho.cases_ with ⟨rfl, rfl, rfl, rfl⟩ | ⟨g, cur, rfl, hb, hg, h1, h2, h3, h4⟩
  · refine (Try.slices_Sort_int_none none 0 w).mono ?_
    rintro e w' ⟨rfl, rfl⟩
    exact ⟨rfl, by simpa [sortL] using ho, fun z hz => hz⟩
  · subst hl
    refine (Try.slices_Sort_int g 0 c xs w (holds_of_block_i hg h4) (Array.getElem?_eq_some_iff.1 hg).1 (by omega)).mono ?_
    rintro e w' ⟨rfl, k, os, rfl⟩
    exact ⟨rfl, ⟨sort_len xs, ownsRow_sorted_i (sort_len xs) hb hg h1 h2 h3⟩, fun z hz => hz.grown (grownBy_sorted_i _) hbase (fun j hj => by cases hj; exact hb)⟩
theorem sorted_any (xs : List Int) (N : Nat) (hN : xs.length = N) (hn : N ≤ 1000000) (w : World) (gf : Nat) (lb : Array Value) (heg : ∀ args w, (callFunc gf args).run Try.prog w = .ok (.enter gf args) w)
    (hH : Hands Fence.wide 5 Try.prog gf lb (fun k _ => #[.int .i64 (xs.getD k 0)]) (fun _ _ _ _ => True) N (fun W => Below w.heap.size w W)) :
    Calls Try.prog 26 #[.func (.func gf) #[] lb] w (OwnQ (sortL xs) w) := by
  have h := collect_any xs N hN hn w gf lb heg hH
  clear heg hH
  go_enter Try.func26, Try.ntmps26
  go_wp2_with fail
  refine h.mono ?_
  rintro e w1 ⟨A, n, c, rfl, ho, hb⟩
  clear h
  have hs := sort_any A n c w.heap.size xs w1 (by have := ho.1; omega) ho hb.size
  go_wp2_with fail
  refine hs.mono ?_
  rintro e w2 ⟨rfl, ho2, hb2⟩
  clear hs
  go_wp2_with fail
  go_ret
  exact ⟨A, n, c, rfl, ho2, hb2 w hb⟩
theorem compact_any (A : Option Addr) (n c base : Nat) (zs : List Int) (w : World) (hn : n ≤ 1000000) (ho : Own .i64 3 w base A n c zs) (hbase : base ≤ w.heap.size) :
    Calls Try.prog 28 #[.slice A n c] w fun e w' => ∃ c', e = .returned (.slice A (Lib.compact zs).length c') ∧ ∀ z : World, Below base z w → Below base z w' := by
  have hl := ho.1
  rcases ho.cases_ with ⟨rfl, rfl, rfl, rfl⟩ | ⟨g, cur, rfl, hb, hg, h1, h2, h3, h4⟩
  · refine (Try.slices_Compact_int_empty none 0 w).mono ?_
    rintro e w' ⟨rfl, rfl⟩
    exact ⟨0, rfl, fun z hz => hz⟩
  · subst hl
    refine (Try.slices_Compact_int g 0 c zs w (holds_of_block_i hg h4) (by omega) h1).mono ?_
    rintro e w' ⟨rfl, k, rfl⟩
    refine ⟨c, rfl, fun z hz => ?_⟩
    have hgr := grownBy_sorted_i (w := w) (g := g) (n := k) (os := #[]) (Lib.compact zs ++ List.replicate (zs.length - (Lib.compact zs).length) 0).toArray
    rw [show ∀ W : World, grow W #[] = W from fun W => by simp [grow]] at hgr
    exact hz.grown hgr hbase (fun j hj => by cases hj; exact hb)
theorem once_code (A : Option Addr) (n c : Nat) (l : List Int) (w : World) (hL : LsIn w A n c l) : Calls Try.prog 17 #[.slice A n c] w fun e w' => e = .returned (.bool (decide l.Nodup)) ∧ Below w.heap.size w w' := by
  have hln := hL.N.len
  have hfew := hL.few
  have hv := values_any A n c l w hL.N (by omega)
  obtain ⟨q, hq⟩ : ∃ q, q = decide l.Nodup := ⟨_, rfl⟩
  rw [← hq]
  have HQ := Lib.hid hq
  have HN := Lib.hid hL.N
  clear hL hq
  go_enter Try.func17, Try.ntmps17
  go_wp2_with fail
  refine hv.mono ?_
  rintro e w1 ⟨hb1, gf, lb, rfl, heg, hH, hS⟩
  clear hv
  have hs := sorted_any l n hln (by omega) w1 gf lb heg (hH.mono fun W hW => hS.keep hW)
  clear heg hH hS
  go_wp2_with fail
  refine hs.mono ?_
  rintro e w2 ⟨A2, n2, c2, rfl, ho2, hb2⟩
  clear hs
  have hn2 : n2 = n := by have h := ho2.1; rw [sort_len] at h; omega
  subst hn2
  have hc := compact_any A2 n2 c2 w1.heap.size (sortL l) w2 (by omega) ho2 hb2.size
  have hco := compact_once (sort_up l)
  rw [sort_len, sort_nodup, hln] at hco
  obtain ⟨m, hm⟩ : ∃ m, m = (Lib.compact (sortL l)).length := ⟨_, rfl⟩
  rw [← hm] at hc hco
  have hqm : ((m : Int) == (n2 : Int)) = q := by
    rw [HQ.out, Bool.eq_iff_iff, decide_eq_true_iff, ← hco]; simp; omega
  clear hm hco ho2
  go_wp2_with fail
  refine hc.mono ?_
  rintro e w3 ⟨c3, rfl, hb3⟩
  clear hc
  have hbf := hb1.trans ((hb3 w1 hb2).mono hb1.size)
  clear hb3
  go_wp2_with fail
  go_ret
  exact ⟨rfl, hbf⟩
theorem lstSaid (z : World) : LstSaid z where
  ins A n c l p x w hL _ _ _ := insert_code A n c l p x w hL
  rem A n c l p w hL _ _ := remove_code A n c l p w hL
  idx A n c l x w hL _ _ := index_code A n c l x w hL
  mov A n c l p q w hL _ _ _ := move_code A n c l p q w hL
  deal A A2 n c n2 c2 l o w hL hL2 _ := deal_code A A2 n c n2 c2 l o w hL hL2
  once A n c l w hL _ := once_code A n c l w hL
  rev A n c l w hL _ := reversed_code A n c l w hL
end Go.Proofs.Ytcnfpjghjdmefaa
