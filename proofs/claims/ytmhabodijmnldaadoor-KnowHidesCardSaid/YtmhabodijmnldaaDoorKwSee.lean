/- Layer 15: a state as a player sees it; one object after another written over, in blocks of the call's own. -/
import Derived.Test.YtmhabodijmnldaaDoorKwMath
import Derived.Test.YtmhabodijmnldaaDoorKwRef
import Derived.Test.YtmhabodijmnldaaDoorEvAp
import Derived.Test.YtmhabodijmnldaaDoorEvOwn
import Derived.Test.YtmhabodijmnldaaDoorStBox
import Derived.Deep.MidRow
namespace Go.Proofs.YtmhabodijmnldaaDoor
open Go.RowKit Ex
set_option maxRecDepth 100000
def seeS (p : Int) (s : StT) : StT := ⟨s.objs.map (seeO p), s.lists, s.pl, s.gm⟩
def seeN (p : Int) (os : List (Nat → Int)) (k : Nat) : List (Nat → Int) := (os.take k).map (seeO p) ++ os.drop k
theorem seeN_0 (p : Int) (os : List (Nat → Int)) : seeN p os 0 = os := by simp [seeN]
theorem seeN_all (p : Int) (os : List (Nat → Int)) : seeN p os os.length = os.map (seeO p) := by simp [seeN]
theorem seeN_len (p : Int) (os : List (Nat → Int)) (k : Nat) : (seeN p os k).length = os.length := by simp [seeN]; omega
theorem seeN_at (p : Int) {os : List (Nat → Int)} {k : Nat} {o : Nat → Int} (h : os[k]? = some o) : seeN p os (k + 1) = (seeN p os k).set k (seeO p o) := by
  obtain ⟨hk, rfl⟩ := List.getElem?_eq_some_iff.1 h
  unfold seeN
  rw [← List.take_append_getElem hk, List.map_append, List.set_append_right _ _ (by simp; omega), List.length_map, List.length_take, Nat.min_eq_left (Nat.le_of_lt hk), Nat.sub_self, List.drop_eq_getElem_cons hk, List.set_cons_zero]
  simp
theorem seeN_same (p : Int) {os : List (Nat → Int)} {k : Nat} {o : Nat → Int} (h : os[k]? = some o) (hb : bitK (o 17) p = true) : seeN p os (k + 1) = seeN p os k := by
  obtain ⟨hk, rfl⟩ := List.getElem?_eq_some_iff.1 h
  unfold seeN
  rw [← List.take_append_getElem hk, List.map_append, List.drop_eq_getElem_cons hk (l := os)]
  simp [seeO, hb]
theorem setCells_snoc (g : Nat) : ∀ (vs : List Value) (o : Nat) (W : World) (v : Value), W.setCells g o (vs ++ [v]) = (W.setCells g o vs).setCell ⟨g, o + vs.length, none⟩ v
  | [], o, W, v => rfl
  | u :: r, o, W, v => by
    show (W.setCell ⟨g, o, none⟩ u).setCells g (o + 1) (r ++ [v]) = ((W.setCell ⟨g, o, none⟩ u).setCells g (o + 1) r).setCell ⟨g, o + (r.length + 1), none⟩ v
    rw [setCells_snoc g r (o + 1), show o + 1 + r.length = o + (r.length + 1) by omega]
def mixO (o f : Nat → Int) (k : Nat) : Nat → Int := fun j => if j < k then f j else o j
/-- The answer's box and the state's, which is the call's own. -/
structure SI (w : World) (gr gt : Nat) (s : StT) (os : List (Nat → Int)) (O : SlT) (L : Nat → SlT) (W : World) : Prop where
  b : Below w.heap.size w W
  r : StAt W gr st0
  ta : StAt W gt (stC O L s.pl s.gm)
  o : OwnS W w.heap.size ⟨os, s.lists, s.pl, s.gm⟩ O L
section
variable {w W W' : World} {gr gt g n c : Nat} {s : StT} {os : List (Nat → Int)} {O : SlT} {L : Nat → SlT}
theorem SI.keep (h : SI w gr gt s os O L W) (hb : Below W.heap.size W W') : SI w gr gt s os O L W' := ⟨keepB hb h.b, h.r.keep hb, h.ta.keep hb, h.o.below hb⟩
theorem SI.setc (h : SI w gr gt s os ⟨some ⟨g, 0, none⟩, n, c⟩ L W) {i j : Nat} (hi : i < os.length) (hj : j < 18) (x : Int) :
    SI w gr gt s (setO os i j x) ⟨some ⟨g, 0, none⟩, n, c⟩ L (W.setCell ⟨g, i * 18 + j, none⟩ (.int .i64 x)) := by
  have ho : W.ownsRow w.heap.size 49 18 (.slice (some ⟨g, 0, none⟩) n c) n (flatO os) := h.o.o
  obtain ⟨g', e', hcell, hfr, hb, hset⟩ := owns_set ho hi hj
  obtain rfl : g = g' := by injection e' with e'; injection e'
  have hbox : ∀ {q : Nat} {cs : Array Value}, StAt W q cs → StAt (W.setCell ⟨g, i * 18 + j, none⟩ (.int .i64 x)) q cs := fun {q cs} hq => by
    refine (heap_setCell_other W ⟨g, i * 18 + j, none⟩ q _ ?_).trans hq
    intro e
    have e : q = g := by simpa using e
    subst e
    obtain ⟨_, cur2, hc2⟩ := own_ty ho (j := q) rfl
    exact absurd (ty_same hq hc2) (by decide)
  refine ⟨h.b.setCell (by simpa using hb) _, hbox h.r, hbox h.ta, ?_, hset x, fun z hz => ⟨(h.o.l z hz).1, owns_keep (h.o.l z hz).2 fun k hk => heap_setCell_other W ⟨g, i * 18 + j, none⟩ k _ ?_⟩, h.o.d⟩
  · show n = (setO os i j x).length
    rw [setO_len]; exact h.o.on
  · intro e
    have e : k = g := by simpa using e
    subst e
    obtain ⟨_, cur, hc⟩ := own_ty (h.o.l z hz).2 hk
    obtain ⟨_, cur2, hc2⟩ := own_ty ho (j := k) rfl
    exact absurd (ty_same hc hc2) (by decide)
theorem SI.run (h : SI w gr gt s os ⟨some ⟨g, 0, none⟩, n, c⟩ L W) {i : Nat} (hi : i < os.length) (f : Nat → Int) : ∀ k, k ≤ 18 →
    SI w gr gt s (os.set i (mixO os[i] f k)) ⟨some ⟨g, 0, none⟩, n, c⟩ L (W.setCells g (i * 18) ((List.range k).map fun j => Value.int .i64 (f j)))
  | 0, _ => by
    have e : os.set i (mixO os[i] f 0) = os := by
      have : mixO os[i] f 0 = os[i] := by funext j; simp [mixO]
      rw [this, List.set_getElem_self]
    rw [e]; exact h
  | k + 1, hk => by
    have h1 := (SI.run h hi f k (by omega)).setc (i := i) (j := k) (by simpa using hi) (by omega) (f k)
    have e : setO (os.set i (mixO os[i] f k)) i k (f k) = os.set i (mixO os[i] f (k + 1)) := by
      unfold setO
      rw [List.set_set, List.getD_eq_getElem?_getD, List.getElem?_set_self hi]
      congr 1
      funext j
      unfold updI mixO
      by_cases e : j = k
      · subst e; simp
      · simp only [e, if_false, Option.getD_some]
        by_cases e2 : j < k
        · rw [if_pos e2, if_pos (by omega)]
        · rw [if_neg e2, if_neg (by omega)]
    rw [e] at h1
    rw [List.range_succ, List.map_append, List.map_singleton, setCells_snoc, List.length_map, List.length_range]
    exact h1
theorem SI.set18 (h : SI w gr gt s os ⟨some ⟨g, 0, none⟩, n, c⟩ L W) {i : Nat} (hi : i < os.length) (f : Nat → Int) :
    SI w gr gt s (os.set i f) ⟨some ⟨g, 0, none⟩, n, c⟩ L (W.setCells g (i * 18) (arr .i64 18 f).toList) := by
  have h1 := h.run hi f 18 (Nat.le_refl _)
  rw [show (arr .i64 18 f).toList = (List.range 18).map fun j => Value.int .i64 (f j) from by simp [arr]]
  have e : flatO (os.set i (mixO os[i] f 18)) = flatO (os.set i f) := by
    have hm : ∀ l : List (Nat → Int), flatO l = (l.map fun o => (arr .i64 18 o).toList).flatten := fun l => by simp [flatO, List.flatMap]
    rw [hm, hm, List.map_set, List.map_set, show arr .i64 18 (mixO os[i] f 18) = arr .i64 18 f from arr_congr fun j hj => by simp [mixO, hj]]
  refine ⟨h1.b, h1.r, h1.ta, ?_, ?_, h1.o.l, h1.o.d⟩
  · have := h1.o.on
    simp only [List.length_set] at this ⊢
    exact this
  · have := h1.o.o
    simp only at this ⊢
    rw [← e]; exact this
theorem SI.there (h : SI w gr gt s os ⟨some ⟨g, 0, none⟩, n, c⟩ L W) {i : Nat} (hi : i < os.length) : W.there g (i * 18) 18 := fun j hj => by
  have ho : W.ownsRow w.heap.size 49 18 (.slice (some ⟨g, 0, none⟩) n c) n (flatO os) := h.o.o
  obtain ⟨g', e', hcell, hfr, hb, hset⟩ := owns_set ho hi hj
  obtain rfl : g = g' := by injection e' with e'; injection e'
  exact ⟨by rw [hcell]; rfl, hfr⟩
end
end Go.Proofs.YtmhabodijmnldaaDoor
