/- Layer 17: the code's shaped. Layer 10: the lists of a state, one behind the other: when each object stands once. Layer 10: the code's listsFit. Layer 10: the code's Check. Layer 17: the code's Of. Layer 17: the code's Is, Statics, Left and Has. Layer 17: the code's Has and Beasts. Layer 17: what the code's shape answers. Layer 17: from the rows' lists to the table that state's Check reads. -/
import Derived.Test.YtplfblccaeligaaDoorShG12
import Derived.Test.YtplfblccaeligaaDoorShG9
import Derived.Test.YtplfblccaeligaaDoorShG4
import Derived.Test.YtplfblccaeligaaDoorShG3
import Derived.Test.YtplfblccaeligaaDoorShSaid
import Derived.Test.YtplfblccaeligaaDoorShG8
import Derived.Test.YtplfblccaeligaaDoorShG7
namespace Go.Proofs.YtplfblccaeligaaDoor
open Go.RowKit Ex Mx
set_option maxRecDepth 100000
theorem fold_take {α β : Type} (f : β → α → β) (x : β) {l : List α} {k : Nat} {e : α} (h : l[k]? = some e) : (l.take (k + 1)).foldl f x = f ((l.take k).foldl f x) e := by
  rw [List.take_add_one, h, List.foldl_append]; rfl
/-- What an effect upon a creature may say. -/
def BdE (e : ET) : Prop := -100 ≤ e.n ∧ e.n ≤ 255 ∧ -100 ≤ e.m ∧ e.m ≤ 255 ∧ ((e.op = 23 ∨ e.op = 25) → 0 ≤ e.n)
theorem becU_bd : ∀ (l : List ET) (pt : Int × Int), (∀ e ∈ l, BdE e) → (-100 ≤ pt.1 ∧ pt.1 ≤ 255 ∧ -100 ≤ pt.2 ∧ pt.2 ≤ 255) → -100 ≤ (l.foldl becU pt).1 ∧ (l.foldl becU pt).1 ≤ 255 ∧ -100 ≤ (l.foldl becU pt).2 ∧ (l.foldl becU pt).2 ≤ 255
  | [], _, _, h => h
  | e :: l, pt, hl, h => by
    have he := hl e List.mem_cons_self
    refine becU_bd l _ (fun y hy => hl y (List.mem_cons_of_mem _ hy)) ?_
    unfold becU
    split
    · exact ⟨he.1, he.2.1, he.2.2.1, he.2.2.2.1⟩
    · exact h
theorem pumU_bd : ∀ (l : List ET) (x : Int × Int × Nat) (B : Int), (∀ e ∈ l, BdE e) → (-B ≤ x.1 ∧ x.1 ≤ B ∧ -B ≤ x.2.1 ∧ x.2.1 ≤ B ∧ x.2.2 < 256) →
    -(B + 255 * l.length) ≤ (l.foldl pumU x).1 ∧ (l.foldl pumU x).1 ≤ B + 255 * l.length ∧ -(B + 255 * l.length) ≤ (l.foldl pumU x).2.1 ∧ (l.foldl pumU x).2.1 ≤ B + 255 * l.length ∧ (l.foldl pumU x).2.2 < 256
  | [], x, B, _, h => by simpa using h
  | e :: l, x, B, hl, h => by
    have he := hl e List.mem_cons_self
    obtain ⟨h1, h2, h3, h4, _⟩ := he
    have hn : -(B + 255) ≤ (pumU x e).1 ∧ (pumU x e).1 ≤ B + 255 ∧ -(B + 255) ≤ (pumU x e).2.1 ∧ (pumU x e).2.1 ≤ B + 255 ∧ (pumU x e).2.2 < 256 := by
      obtain ⟨g1, g2, g3, g4, g5⟩ := h
      unfold pumU
      split
      · dsimp only; refine ⟨?_, ?_, ?_, ?_, g5⟩ <;> omega
      · split
        · dsimp only; refine ⟨?_, ?_, ?_, ?_, turnW_256 g5 (Nat.le_refl _)⟩ <;> omega
        · split
          · dsimp only; refine ⟨?_, ?_, ?_, ?_, turnW_256 g5 (Nat.le_refl _)⟩ <;> omega
          · refine ⟨?_, ?_, ?_, ?_, g5⟩ <;> omega
    have := pumU_bd l _ (B + 255) (fun y hy => hl y (List.mem_cons_of_mem _ hy)) hn
    simp only [List.foldl_cons, List.length_cons]
    obtain ⟨a1, a2, a3, a4, a5⟩ := this
    refine ⟨?_, ?_, ?_, ?_, a5⟩ <;> omega
theorem wrap_in {x : Int} (h : -4611686018427387904 ≤ x ∧ x ≤ 4611686018427387904) : IntKind.i64.wrap x = x := by rw [IntKind.wrap_i64]; omega
/-- Effects that read in a list. -/
def RdU (W : World) (A : Option Addr) (l : List ET) : Prop := ∀ j t, l[j]? = some t → ∃ g ys, A = some ⟨g, 0, none⟩ ∧ g < W.heap.size ∧ W.rangeAt g (j * 5) ys.toList ∧ RdV W t ys
theorem RdU.keep {W W' : World} {A : Option Addr} {l : List ET} (h : RdU W A l) (hb : Below W.heap.size W W') : RdU W' A l := fun j t hj => by
  obtain ⟨g, ys, h1, h2, h3, h4⟩ := h j t hj
  exact ⟨g, ys, h1, Nat.lt_of_lt_of_le h2 hb.size, range_below hb h2 h3, h4⟩
theorem EfI.rdU {w W : World} {A : Option Addr} {n c : Nat} {l : List ET} (h : EfI RdV w A n c l W) : RdU W A l := fun j t hj => by
  obtain ⟨g, ys, h1, _, h3, h4, _, h6⟩ := h.at_ hj
  exact ⟨g, ys, h1, h3, h4, h6⟩
/-- Block g is a shape's box. -/
def ShAt (w : World) (g : Nat) (p q u : Int) : Prop := w.heap[g]? = some (.cells #[.int .i64 p, .int .i64 q, .int .i64 u] 38 (0, 0))
section
variable {w w' : World} {g : Nat} {p q u : Int}
theorem ShAt.c0 (h : ShAt w g p q u) : w.cell? ⟨g, 0, none⟩ = some (.int .i64 p) := by rw [cell_of_row _ _ _ _ _ _ h]; rfl
theorem ShAt.c1 (h : ShAt w g p q u) : w.cell? ⟨g, 1, none⟩ = some (.int .i64 q) := by rw [cell_of_row _ _ _ _ _ _ h]; rfl
theorem ShAt.c2 (h : ShAt w g p q u) : w.cell? ⟨g, 2, none⟩ = some (.int .i64 u) := by rw [cell_of_row _ _ _ _ _ _ h]; rfl
theorem ShAt.fz (h : ShAt w g p q u) (i : Nat) : w.frozen? ⟨g, i, none⟩ = false := frozen_of_row w g i _ _ h
theorem ShAt.lt (h : ShAt w g p q u) : g < w.heap.size := (Array.getElem?_eq_some_iff.1 h).1
theorem ShAt.keep (h : ShAt w g p q u) (hb : Below w.heap.size w w') : ShAt w' g p q u := (hb.block g h.lt).trans h
theorem ShAt.set0 (h : ShAt w g p q u) (x : Int) : ShAt (w.setCell ⟨g, 0, none⟩ (.int .i64 x)) g x q u := heap_setCell_same w g 0 _ _ _ h
theorem ShAt.set1 (h : ShAt w g p q u) (x : Int) : ShAt (w.setCell ⟨g, 1, none⟩ (.int .i64 x)) g p x u := heap_setCell_same w g 1 _ _ _ h
theorem ShAt.set2 (h : ShAt w g p q u) (x : Int) : ShAt (w.setCell ⟨g, 2, none⟩ (.int .i64 x)) g p q x := heap_setCell_same w g 2 _ _ _ h
end
theorem shp_size : (Tryd.prog.info? 38).map (·.size) = some 3 := by kernel_rfl
/-- What stands while a shape becomes another. -/
def HeldS (w1 : World) (g7 g9 : Nat) (es : Array Value) (W : World) : Prop := (∃ p q u, ShAt W g7 p q u) ∧ EvAt W g9 es ∧ Below w1.heap.size w1 W
theorem evAt_set {W : World} {g7 g9 : Nat} {es : Array Value} (h : EvAt W g9 es) (hne : g7 ≠ g9) (j : Nat) (v : Value) : EvAt (W.setCell ⟨g7, j, none⟩ v) g9 es := (heap_setCell_other W ⟨g7, j, none⟩ g9 v (by simpa using hne.symm)).trans h
set_option linter.unusedSimpArgs false in
set_option maxHeartbeats 0 in
theorem shaped_any (c : CardT) (Ac : Option Addr) (kc cc : Nat) (o : Nat → Int) (l : List ET) (A : Option Addr) (n ca : Nat) (w : World) (hn : n = l.length) (hnl : n ≤ 9000000) (hrd : RdU w A l) (hbd : ∀ e ∈ l, BdE e)
    (hc : -100 ≤ c.power ∧ c.power ≤ 255 ∧ -100 ≤ c.tough ∧ c.tough ≤ 255) (hsy : 0 ≤ c.says ∧ c.says ≤ 255)
    (hob : 0 ≤ o 7 ∧ o 7 ≤ 1073741824 ∧ -1073741824 ≤ o 8 ∧ o 8 ≤ 1073741824 ∧ -1073741824 ≤ o 9 ∧ o 9 ≤ 1073741824 ∧ 0 ≤ o 10 ∧ o 10 ≤ 255) :
    Calls Tryd.prog 32 #[.agg (cardC c Ac kc cc), .agg (arr .i64 18 o), .slice A n ca] w fun en w' => en = .returned (.agg (shV (ofU c o l))) ∧ Below w.heap.size w w' := by
  obtain ⟨ans, hans⟩ : ∃ q, q = ofU c o l := ⟨_, rfl⟩
  rw [← hans]
  have HQ := Lib.hid hans
  clear hans
  obtain ⟨pw, hpw⟩ : ∃ x, x = c.power := ⟨_, rfl⟩
  obtain ⟨th, hth⟩ : ∃ x, x = c.tough := ⟨_, rfl⟩
  obtain ⟨sy, hsy1, hsy2⟩ : ∃ x : Nat, c.says = (x : Int) ∧ x < 256 := ⟨c.says.toNat, by omega, by omega⟩
  have HCC := Lib.hid (And.intro hpw (And.intro hth hsy1))
  have HCB := Lib.hid hc
  rw [← hpw, ← hth] at HCB
  have HOB := Lib.hid hob
  have HBD := Lib.hid hbd
  have HLN := Lib.hid hn.symm
  clear hpw hth hsy hc hob hbd hn
  go_enter Tryd.func32, Tryd.ntmps32
  go_upto_region 1 with fail
  have hba : Below w.heap.size w (w.alloc (.cells (cardC c Ac kc cc) 55)) := (Below.refl _ _).alloc (Nat.le_refl _) _
  obtain ⟨wa, hwa⟩ : ∃ x, x = w.alloc (.cells (cardC c Ac kc cc) 55) := ⟨_, rfl⟩
  have hC0 : CdAt wa w.heap.size (cardC c Ac kc cc) := by rw [hwa]; exact CdAt.new _ _
  have hwas : wa.heap.size = w.heap.size + 1 := by rw [hwa]; simp
  rw [← hwa] at hba
  have hbo : Below wa.heap.size wa (wa.alloc (.cells (arr .i64 18 o) 37)) := (Below.refl _ _).alloc (Nat.le_refl _) _
  obtain ⟨wb, hwb⟩ : ∃ x, x = wa.alloc (.cells (arr .i64 18 o) 37) := ⟨_, rfl⟩
  have hO0 : ObAt wb wa.heap.size o := by rw [hwb]; exact heap_alloc_new _ _
  have hwbs : wb.heap.size = wa.heap.size + 1 := by rw [hwb]; simp
  rw [← hwb] at hbo
  have hbp : Below wb.heap.size wb (wb.alloc (.cells #[.int .i64 0, .int .i64 0, .int .i64 0] 38)) := (Below.refl _ _).alloc (Nat.le_refl _) _
  obtain ⟨w1, hw1⟩ : ∃ x, x = wb.alloc (.cells #[.int .i64 0, .int .i64 0, .int .i64 0] 38) := ⟨_, rfl⟩
  have hP0 : ShAt w1 wb.heap.size 0 0 0 := by rw [hw1]; exact heap_alloc_new _ _
  rw [← hw1] at hbp
  show Code.wp _ _ _ _ (((w.alloc (.cells (cardC c Ac kc cc) 55)).alloc (.cells (arr .i64 18 o) 37)).alloc (.cells #[.int .i64 0, .int .i64 0, .int .i64 0] 38))
  rw [← hwa, ← hwb, ← hw1]
  obtain ⟨gc, hgc⟩ : ∃ g, g = w.heap.size := ⟨_, rfl⟩
  obtain ⟨go, hgo⟩ : ∃ g, g = gc + 1 := ⟨_, rfl⟩
  obtain ⟨gr, hgr⟩ : ∃ g, g = go + 1 := ⟨_, rfl⟩
  rw [hwas, ← hgc, ← hgo] at hO0
  rw [hwbs, hwas, ← hgc, ← hgo, ← hgr] at hP0
  rw [← hgc] at hC0
  rw [← hgc, ← hgo, ← hgr]
  have HC1 := Lib.hid ((hC0.keep hbo).keep hbp)
  have HO1 := Lib.hid (show ObAt w1 go o from (hbp.block go (Array.getElem?_eq_some_iff.1 hO0).1).trans hO0)
  have HP1 := Lib.hid hP0
  have HB1 := Lib.hid (keepB hbp (keepB hbo hba))
  have HRD := Lib.hid (hrd.keep (keepB hbp (keepB hbo hba)))
  have HG := Lib.hid (show gr < w1.heap.size ∧ go < w1.heap.size ∧ w.heap.size ≤ gr from ⟨hP0.lt, Nat.lt_of_lt_of_le (Array.getElem?_eq_some_iff.1 hO0).1 hbp.size, by omega⟩)
  clear hwa hwb hw1 hgc hgo hgr hwas hwbs hba hbo hbp hC0 hO0 hP0 hrd
  have k9 : w1.cell? ⟨gc, 9, none⟩ = some (.int .i64 pw) := by rw [HC1.out.cell, HCC.out.1]; unfold cardC; rw [arr6]; rfl
  have k10 : w1.cell? ⟨gc, 10, none⟩ = some (.int .i64 th) := by rw [HC1.out.cell, HCC.out.2.1]; unfold cardC; rw [arr6]; rfl
  have k11 : w1.cell? ⟨gc, 11, none⟩ = some (.int .i64 (sy : Int)) := by rw [HC1.out.cell, ← HCC.out.2.2]; unfold cardC; rw [arr6]; rfl
  go_upto_region 2 with fail
  obtain ⟨w2, hw2⟩ : ∃ w2, w2 = w1.alloc (.cells #[.int .i64 pw, .int .i64 th, .int .i64 (sy : Int)] 38) := ⟨_, rfl⟩
  have hs2 : ShAt w2 w1.heap.size pw th (sy : Int) := by rw [hw2]; exact heap_alloc_new _ _
  have hb2 : Below w1.heap.size w1 w2 := by rw [hw2]; exact (Below.refl _ _).alloc (Nat.le_refl _) _
  rw [← hw2]
  obtain ⟨g7, hg7⟩ : ∃ g, g = w1.heap.size := ⟨_, rfl⟩
  have HG7 := Lib.hid (show w1.heap.size ≤ g7 by omega)
  rw [← hg7] at hs2
  rw [← hg7]
  have HV0 := Lib.hid (show (l.take 0).foldl becU (pw, th) = (pw, th) ∧ ShAt w2 g7 pw th (sy : Int) ∧ Below w1.heap.size w1 w2 from ⟨rfl, hs2, hb2⟩)
  clear k9 k10 k11 hw2 hs2 hb2 hg7
  go_upto_region 3 with fail
  go_loopw [21] (fun i wr => ∃ (k : Nat) (p q : Int), i = .int .i64 ((k : Nat) : Int) ∧ k ≤ n ∧ Hid ((l.take k).foldl becU (pw, th) = (p, q) ∧ ShAt wr g7 p q (sy : Int) ∧ Below w1.heap.size w1 wr)) (fun i _ => n - (intOf i).toNat)
  case atStart => exact ⟨0, pw, th, rfl, by omega, HV0⟩
  case round =>
    clear HV0
    obtain ⟨k, p, q, rfl, hk, HV⟩ := hrel
    by_cases hlt : k < n
    · have hltn := hlt
      have hlk : k < l.length := by rw [HLN.out]; exact hlt
      obtain ⟨e, he⟩ : ∃ e, l[k]? = some e := ⟨_, List.getElem?_eq_getElem hlk⟩
      have hbd := HBD.out e (List.mem_of_getElem? he)
      have hbwr := HV.out.2.2
      obtain ⟨g, ys, rfl, hgl, hrg0, Ae, ke, ce, rfl⟩ := HRD.out k e he
      have hrg := range_below hbwr hgl hrg0
      obtain ⟨e1, he1⟩ : ∃ x, x = e.op := ⟨_, rfl⟩
      obtain ⟨e2, he2⟩ : ∃ x, x = e.n := ⟨_, rfl⟩
      obtain ⟨e3, he3⟩ : ∃ x, x = e.m := ⟨_, rfl⟩
      obtain ⟨e4, he4⟩ : ∃ x, x = e.who := ⟨_, rfl⟩
      rw [← he1, ← he2, ← he3, ← he4] at hrg
      unfold BdE at hbd
      rw [← he1, ← he2, ← he3] at hbd
      have HEE := Lib.hid (And.intro he1 (And.intro he2 he3))
      have h5 : (evC e1 e2 e3 e4 Ae ke ce).size = 5 := rfl
      have hy1 : (evC e1 e2 e3 e4 Ae ke ce).all (·.oneCell') = true := by simp [evC, Value.oneCell']
      have hsy : (Tryd.prog.info? 65).map (·.size) = some (evC e1 e2 e3 e4 Ae ke ce).size := size5
      have hnew : (wr.alloc (.cells zeroE 65)).heap[wr.heap.size]? = some (.cells zeroE 65 (0, 0)) := heap_alloc_new _ _
      have p0 : (0 : Int) ≤ (k : Int) := by omega
      have p1 : (k : Int) < (n : Int) := by omega
      clear hlk hrg0 hgl he1 he2 he3 he4
      go_upto_region 5 with (first
        | (refine load_sub rfl (.tmp 23) rfl g (k * 5) rfl _ h5 hrg ?_)
        | (refine wpList_store_row rfl 65 (.tmp 9) (.tmp 24) rfl wr.heap.size _ rfl rfl 65 zeroE hnew hsy rfl hy1 ?_))
      obtain ⟨w4, hw4, hE4, hb4⟩ := ev_box wr (xs := evC e1 e2 e3 e4 Ae ke ce)
      show Code.wp _ _ _ _ ((wr.alloc (.cells zeroE 65)).setRow wr.heap.size (evC e1 e2 e3 e4 Ae ke ce))
      rw [← hw4]
      obtain ⟨g9, hg9⟩ : ∃ g, g = wr.heap.size := ⟨_, rfl⟩
      have hne : g7 ≠ g9 := by rw [hg9]; exact Nat.ne_of_lt HV.out.2.1.lt
      rw [← hg9] at hE4
      rw [← hg9]
      have hs4 := HV.out.2.1.keep hb4
      have hb14 := keepB hb4 hbwr
      obtain ⟨es, hes⟩ : ∃ es, es = evC e1 e2 e3 e4 Ae ke ce := ⟨_, rfl⟩
      rw [← hes] at hE4
      have HE0 := Lib.hid (show es[0]? = some (.int .i64 e1) ∧ es[1]? = some (.int .i64 e2) ∧ es[2]? = some (.int .i64 e3) by rw [hes]; exact ⟨rfl, rfl, rfl⟩)
      clear hes
      clear hw4 hg9 hnew hy1 hsy h5 hrg hb4 hbwr
      have HF := Lib.hid ((fold_take becU (pw, th) he).trans (congrArg (fun x => becU x e) HV.out.1))
      have c9 : w4.cell? ⟨g9, 0, none⟩ = some (.int .i64 e1) := (hE4.cell 0).trans HE0.out.1
      clear he
      by_cases h24 : e1 = 24
      · have d24 : (e1 == 24) = true := by simp [h24]
        go_upto_region 6 with fail
        have hbd1 : Below w4.heap.size w4 w4.drew := (Below.refl _ _).drew
        refine wp_region_held_drew (S := HeldS w1 g7 g9 es) (by kernel_rfl) ⟨⟨p, q, _, hs4.keep hbd1⟩, hE4.keep hbd1, keepB hbd1 hb14⟩ (fun hHeld => ?_)
        have hk1 : ∀ W, HeldS w1 g7 g9 es W → W.cell? ⟨g9, 1, none⟩ = some (.int .i64 e2) := fun W hW => (hW.2.1.cell 1).trans HE0.out.2.1
        have hk2 : ∀ W, HeldS w1 g7 g9 es W → W.cell? ⟨g9, 2, none⟩ = some (.int .i64 e3) := fun W hW => (hW.2.1.cell 2).trans HE0.out.2.2
        refine wpAnyH_take (i := 0) (v := ?_) rfl (by kernel_rfl) (by kernel_rfl) (by kernel_rfl) (fun _ _ _ h => h) (Or.inl ⟨by rfl, ?_⟩) hHeld ?_
        rotate_left
        · (intro w hSw; go_simp; (try with_reducible rfl))
        simp only [Act.put, List.getElem_toArray, List.getElem_cons_zero, List.getElem_cons_succ, List.setIfInBounds_toArray, List.set_cons_zero, List.set_cons_succ]
        refine wpAnyH_take (i := 1) (v := ?_) rfl (by kernel_rfl) (by kernel_rfl) (by kernel_rfl) (fun _ _ _ h => h) (Or.inl ⟨by rfl, ?_⟩) hHeld ?_
        rotate_left
        · (intro w hSw; go_simp; (try with_reducible rfl))
        simp only [Act.put, List.getElem_toArray, List.getElem_cons_zero, List.getElem_cons_succ, List.setIfInBounds_toArray, List.set_cons_zero, List.set_cons_succ]
        refine wpAnyH_take (i := 2) (v := ?_) rfl (by kernel_rfl) (by kernel_rfl) (by kernel_rfl) (fun _ _ _ h => h) (Or.inl ⟨by rfl, ?_⟩) hHeld ?_
        rotate_left
        · (intro w hSw; go_simp; (try with_reducible rfl))
        simp only [Act.put, List.getElem_toArray, List.getElem_cons_zero, List.getElem_cons_succ, List.setIfInBounds_toArray, List.set_cons_zero, List.set_cons_succ]
        refine wpAnyH_take (i := 3) (v := ?_) rfl (by kernel_rfl) (by kernel_rfl) (by kernel_rfl) (fun _ _ _ h => h) (Or.inl ⟨by rfl, ?_⟩) hHeld ?_
        rotate_left
        · (intro w hSw; go_simp; (try with_reducible rfl))
        simp only [Act.put, List.getElem_toArray, List.getElem_cons_zero, List.getElem_cons_succ, List.setIfInBounds_toArray, List.set_cons_zero, List.set_cons_succ]
        refine wpAnyH_take (i := 4) (v := ?_) rfl (by kernel_rfl) (by kernel_rfl) (by kernel_rfl) (fun _ _ _ h => h) (Or.inl ⟨by rfl, ?_⟩) hHeld ?_
        rotate_left
        · (intro w hSw; go_simp; (try with_reducible rfl))
        simp only [Act.put, List.getElem_toArray, List.getElem_cons_zero, List.getElem_cons_succ, List.setIfInBounds_toArray, List.set_cons_zero, List.set_cons_succ]
        have hAt : ShAt w4.drew g7 p q (sy : Int) := hs4.keep hbd1
        clear hbd1
        generalize w4.drew = W0 at hAt hHeld ⊢
        refine wpAnyH_ready (rs := [5]) (by kernel_rfl) (by simp) ?_
        refine AllReadyH.cons rfl (fun K hK => ?_) AllReadyH.nil
        simp only [List.getElem_toArray, List.getElem_cons_zero, List.getElem_cons_succ]
        have q1 := hAt.c0
        have q2 := hAt.fz 0
        go_simp
        have hAt2 := hAt.set0 e2
        have hHeld2 : HeldS w1 g7 g9 es (World.setCell W0 ⟨g7, 0, none⟩ (.int .i64 e2)) := ⟨⟨_, _, _, hAt2⟩, (heap_setCell_other _ ⟨g7, 0, none⟩ g9 _ (by simpa using hne.symm)).trans hHeld.2.1, hHeld.2.2.setCell (p := ⟨g7, 0, none⟩) HG7.out _⟩
        refine hK.out _ _ hHeld2 (fun _ => ?_)
        clear hK K q1 q2 hAt hHeld
        have hAt := hAt2
        have hHeld := hHeld2
        clear hAt2 hHeld2
        try simp only [Act.put, List.setIfInBounds_toArray, List.set_cons_zero, List.set_cons_succ]
        generalize World.setCell W0 ⟨g7, 0, none⟩ (.int .i64 e2) = w5 at hAt hHeld ⊢
        refine wpAnyH_take (i := 6) (v := ?_) rfl (by kernel_rfl) (by kernel_rfl) (by kernel_rfl) (fun _ _ _ h => h) (Or.inl ⟨by rfl, ?_⟩) hHeld ?_
        rotate_left
        · (intro w hSw; go_simp; (try with_reducible rfl))
        simp only [Act.put, List.getElem_toArray, List.getElem_cons_zero, List.getElem_cons_succ, List.setIfInBounds_toArray, List.set_cons_zero, List.set_cons_succ]
        refine wpAnyH_ready (rs := [7]) (by kernel_rfl) (by simp) ?_
        refine AllReadyH.cons rfl (fun K hK => ?_) AllReadyH.nil
        simp only [List.getElem_toArray, List.getElem_cons_zero, List.getElem_cons_succ]
        have q1 := hAt.c1
        have q2 := hAt.fz 1
        go_simp
        have hAt2 := hAt.set1 e3
        have hHeld2 : HeldS w1 g7 g9 es (World.setCell w5 ⟨g7, 1, none⟩ (.int .i64 e3)) := ⟨⟨_, _, _, hAt2⟩, (heap_setCell_other _ ⟨g7, 1, none⟩ g9 _ (by simpa using hne.symm)).trans hHeld.2.1, hHeld.2.2.setCell (p := ⟨g7, 1, none⟩) HG7.out _⟩
        refine hK.out _ _ hHeld2 (fun _ => ?_)
        clear hK K q1 q2 hAt hHeld
        have hAt := hAt2
        have hHeld := hHeld2
        clear hAt2 hHeld2
        try simp only [Act.put, List.setIfInBounds_toArray, List.set_cons_zero, List.set_cons_succ]
        generalize World.setCell w5 ⟨g7, 1, none⟩ (.int .i64 e3) = w6 at hAt hHeld ⊢
        refine wpAnyH_done (by kernel_rfl) ?_ _
        have HV6 := Lib.hid (show (l.take (k + 1)).foldl becU (pw, th) = (e2, e3) ∧ ShAt w6 g7 e2 e3 (sy : Int) ∧ Below w1.heap.size w1 w6 from
          ⟨by rw [HF.out]; unfold becU; rw [if_pos (by rw [← HEE.out.1]; exact h24), ← HEE.out.2.1, ← HEE.out.2.2], hAt, hHeld.2.2⟩)
        clear hk1 hk2 hAt hHeld hs4 hE4 hb14 c9 HF h24 d24
        go_wp2_with fail
        go_roundw
        case rel => exact ⟨k + 1, e2, e3, by go_num, by omega, HV6⟩
        case measure => simp [intOf]; omega
      · have d24 : (e1 == 24) = false := by simp [h24]
        have HV6 := Lib.hid (show (l.take (k + 1)).foldl becU (pw, th) = (p, q) ∧ ShAt w4 g7 p q (sy : Int) ∧ Below w1.heap.size w1 w4 from
          ⟨by rw [HF.out]; unfold becU; rw [if_neg (by rw [← HEE.out.1]; exact h24)], hs4, hb14⟩)
        clear hs4 hE4 hb14 HF h24
        go_wp2_with fail
        go_roundw
        case rel => exact ⟨k + 1, p, q, by go_num, by omega, HV6⟩
        case measure => simp [intOf]; omega
    · have hkn : k = n := by omega
      subst k
      have hbec : l.foldl becU (pw, th) = (p, q) := by
        have h := HV.out.1
        rw [List.take_of_length_le (by rw [HLN.out]; exact Nat.le_refl _)] at h
        exact h
      have hpb := becU_bd l (pw, th) HBD.out HCB.out
      rw [hbec] at hpb
      have HBEC := Lib.hid hbec
      simp only at hpb
      have hBt := HV.out.2.2
      have hAt := HV.out.2.1
      have q0 := hAt.c0
      have q1 := hAt.c1
      have q2 := hAt.c2
      have f0 := hAt.fz 0
      have f1 := hAt.fz 1
      have f2 := hAt.fz 2
      have hO := fun W (hW : Below w1.heap.size w1 W) => (hW.block go HG.out.2.1).trans HO1.out
      have hoc : ∀ W, Below w1.heap.size w1 W → ∀ i, i < 18 → W.cell? ⟨go, i, none⟩ = some (.int .i64 (o i)) := fun W hW i hi => by
        rw [cell_of_row W go i _ _ _ (hO W hW)]; exact arr_get .i64 18 o hi
      obtain ⟨o7, ho7⟩ : ∃ x, x = o 7 := ⟨_, rfl⟩
      obtain ⟨o8, ho8⟩ : ∃ x, x = o 8 := ⟨_, rfl⟩
      obtain ⟨o9, ho9⟩ : ∃ x, x = o 9 := ⟨_, rfl⟩
      obtain ⟨o10, ho10, ho10b⟩ : ∃ x : Nat, o 10 = (x : Int) ∧ x < 256 := ⟨(o 10).toNat, by have := HOB.out; omega, by have := HOB.out; omega⟩
      have hob := HOB.out
      rw [← ho7, ← ho8, ← ho9] at hob
      have HOC := Lib.hid (show ∀ W, Below w1.heap.size w1 W → W.cell? ⟨go, 7, none⟩ = some (.int .i64 o7) ∧ W.cell? ⟨go, 8, none⟩ = some (.int .i64 o8) ∧ W.cell? ⟨go, 9, none⟩ = some (.int .i64 o9) ∧ W.cell? ⟨go, 10, none⟩ = some (.int .i64 (o10 : Int)) from fun W hW =>
        ⟨by rw [ho7]; exact hoc W hW 7 (by omega), by rw [ho8]; exact hoc W hW 8 (by omega), by rw [ho9]; exact hoc W hW 9 (by omega), by rw [← ho10]; exact hoc W hW 10 (by omega)⟩)
      have HOO := Lib.hid (And.intro ho7 (And.intro ho8 (And.intro ho9 ho10)))
      obtain ⟨r1, hp1⟩ : ∃ x, x = p + o7 := ⟨_, rfl⟩
      obtain ⟨r2, hr2⟩ : ∃ x, x = q + o7 := ⟨_, rfl⟩
      have e7p : IntKind.i64.wrap (p + o7) = r1 := by rw [hp1]; exact wrap_in (by omega)
      have e7q : IntKind.i64.wrap (q + o7) = r2 := by rw [hr2]; exact wrap_in (by omega)
      have hB1 : -1073742000 ≤ r1 ∧ r1 ≤ 1073742079 ∧ -1073742000 ≤ r2 ∧ r2 ≤ 1073742079 := by omega
      have HPQ := Lib.hid (And.intro hp1 hr2)
      have hb8 : -1073741824 ≤ o8 ∧ o8 ≤ 1073741824 ∧ -1073741824 ≤ o9 ∧ o9 ≤ 1073741824 := by omega
      have c7 := (HOC.out wr hBt).1
      clear hpb hbec hO hoc ho7 ho8 ho9 ho10 hob hp1 hr2 HV
      go_upto_region 9 with fail
      obtain ⟨w5, hwy⟩ : ∃ x, x = World.setCell wr ⟨g7, 0, none⟩ (.int .i64 r1) := ⟨_, rfl⟩
      have hAt2 : ShAt w5 g7 r1 q (sy : Int) := by rw [hwy]; exact hAt.set0 r1
      have hBt2 : Below w1.heap.size w1 w5 := by rw [hwy]; exact hBt.setCell (p := ⟨g7, 0, none⟩) HG7.out _
      rw [← hwy]
      clear hwy hAt hBt q0 q1 q2 f0 f1 f2
      have hAt := hAt2
      have hBt := hBt2
      clear hAt2 hBt2
      have q0 := hAt.c0
      have q1 := hAt.c1
      have q2 := hAt.c2
      have f0 := hAt.fz 0
      have f1 := hAt.fz 1
      have f2 := hAt.fz 2
      clear c7
      have c7 := (HOC.out w5 hBt).1
      go_upto_region 10 with fail
      obtain ⟨w6, hwy⟩ : ∃ x, x = World.setCell w5 ⟨g7, 1, none⟩ (.int .i64 r2) := ⟨_, rfl⟩
      have hAt2 : ShAt w6 g7 r1 r2 (sy : Int) := by rw [hwy]; exact hAt.set1 r2
      have hBt2 : Below w1.heap.size w1 w6 := by rw [hwy]; exact hBt.setCell (p := ⟨g7, 1, none⟩) HG7.out _
      rw [← hwy]
      clear hwy hAt hBt q0 q1 q2 f0 f1 f2
      have hAt := hAt2
      have hBt := hBt2
      clear hAt2 hBt2
      have q0 := hAt.c0
      have q1 := hAt.c1
      have q2 := hAt.c2
      have f0 := hAt.fz 0
      have f1 := hAt.fz 1
      have f2 := hAt.fz 2
      have HV0 := Lib.hid (show (l.take 0).foldl pumU (r1, r2, sy) = (r1, r2, sy) ∧ ShAt w6 g7 r1 r2 (sy : Int) ∧ Below w1.heap.size w1 w6 from ⟨rfl, hAt, hBt⟩)
      clear c7 hAt hBt q0 q1 q2 f0 f1 f2 e7p e7q
      go_upto_region 11 with fail
      go_loopw [49] (fun i wr => ∃ (k : Nat) (p q : Int) (u : Nat), i = .int .i64 ((k : Nat) : Int) ∧ k ≤ n ∧ Hid ((l.take k).foldl pumU (r1, r2, sy) = (p, q, u) ∧ ShAt wr g7 p q (u : Int) ∧ Below w1.heap.size w1 wr)) (fun i _ => n - (intOf i).toNat)
      case atStart => exact ⟨0, r1, r2, sy, rfl, by omega, HV0⟩
      case round =>
        clear HV0
        obtain ⟨k, p, q, u, rfl, hk, HV⟩ := hrel
        have hpu := pumU_bd (l.take k) (r1, r2, sy) 1073742079 (fun e he => HBD.out e (List.mem_of_mem_take he)) ⟨by dsimp only; omega, by dsimp only; omega, by dsimp only; omega, by dsimp only; omega, hsy2⟩
        rw [HV.out.1] at hpu
        have hlen := List.length_take_le k l
        simp only at hpu
        have hpq : -4000000000 ≤ p ∧ p ≤ 4000000000 ∧ -4000000000 ≤ q ∧ q ≤ 4000000000 ∧ u < 256 := by
          obtain ⟨a1, a2, a3, a4, a5⟩ := hpu
          refine ⟨?_, ?_, ?_, ?_, a5⟩ <;> omega
        clear hpu hlen
        by_cases hlt : k < n
        · have hltn := hlt
          have hlk : k < l.length := by rw [HLN.out]; exact hlt
          obtain ⟨e, he⟩ : ∃ e, l[k]? = some e := ⟨_, List.getElem?_eq_getElem hlk⟩
          have hbd := HBD.out e (List.mem_of_getElem? he)
          have hbwr := HV.out.2.2
          obtain ⟨g, ys, rfl, hgl, hrg0, Ae, ke, ce, rfl⟩ := HRD.out k e he
          have hrg := range_below hbwr hgl hrg0
          obtain ⟨e1, he1⟩ : ∃ x, x = e.op := ⟨_, rfl⟩
          obtain ⟨e2, he2⟩ : ∃ x, x = e.n := ⟨_, rfl⟩
          obtain ⟨e3, he3⟩ : ∃ x, x = e.m := ⟨_, rfl⟩
          obtain ⟨e4, he4⟩ : ∃ x, x = e.who := ⟨_, rfl⟩
          rw [← he1, ← he2, ← he3, ← he4] at hrg
          unfold BdE at hbd
          rw [← he1, ← he2, ← he3] at hbd
          have HEE := Lib.hid (And.intro he1 (And.intro he2 he3))
          have h5 : (evC e1 e2 e3 e4 Ae ke ce).size = 5 := rfl
          have hy1 : (evC e1 e2 e3 e4 Ae ke ce).all (·.oneCell') = true := by simp [evC, Value.oneCell']
          have hsy : (Tryd.prog.info? 65).map (·.size) = some (evC e1 e2 e3 e4 Ae ke ce).size := size5
          have hnew : (wr.alloc (.cells zeroE 65)).heap[wr.heap.size]? = some (.cells zeroE 65 (0, 0)) := heap_alloc_new _ _
          have p0 : (0 : Int) ≤ (k : Int) := by omega
          have p1 : (k : Int) < (n : Int) := by omega
          clear hlk hrg0 hgl he1 he2 he3 he4
          go_upto_region 13 with (first
            | (refine load_sub rfl (.tmp 51) rfl g (k * 5) rfl _ h5 hrg ?_)
            | (refine wpList_store_row rfl 65 (.tmp 11) (.tmp 52) rfl wr.heap.size _ rfl rfl 65 zeroE hnew hsy rfl hy1 ?_))
          obtain ⟨w4, hw4, hE4, hb4⟩ := ev_box wr (xs := evC e1 e2 e3 e4 Ae ke ce)
          show Code.wp _ _ _ _ ((wr.alloc (.cells zeroE 65)).setRow wr.heap.size (evC e1 e2 e3 e4 Ae ke ce))
          rw [← hw4]
          obtain ⟨g9, hg9⟩ : ∃ g, g = wr.heap.size := ⟨_, rfl⟩
          have hne : g7 ≠ g9 := by rw [hg9]; exact Nat.ne_of_lt HV.out.2.1.lt
          rw [← hg9] at hE4
          rw [← hg9]
          have hs4 := HV.out.2.1.keep hb4
          have hb14 := keepB hb4 hbwr
          obtain ⟨es, hes⟩ : ∃ es, es = evC e1 e2 e3 e4 Ae ke ce := ⟨_, rfl⟩
          rw [← hes] at hE4
          have HE0 := Lib.hid (show es[0]? = some (.int .i64 e1) ∧ es[1]? = some (.int .i64 e2) ∧ es[2]? = some (.int .i64 e3) by rw [hes]; exact ⟨rfl, rfl, rfl⟩)
          clear hes
          clear hw4 hg9 hnew hy1 hsy h5 hrg hb4 hbwr
          have HF := Lib.hid ((fold_take pumU (r1, r2, sy) he).trans (congrArg (fun x => pumU x e) HV.out.1))
          have c9 : w4.cell? ⟨g9, 0, none⟩ = some (.int .i64 e1) := (hE4.cell 0).trans HE0.out.1
          clear he
          have hBt := hb14
          have hAt := hs4
          have q0 := hAt.c0
          have q1 := hAt.c1
          have q2 := hAt.c2
          have f0 := hAt.fz 0
          have f1 := hAt.fz 1
          have f2 := hAt.fz 2
          have hEt := hE4
          have m0 : w4.cell? ⟨g9, 1, none⟩ = some (.int .i64 e2) := (hE4.cell 1).trans HE0.out.2.1
          clear hs4 hb14 hE4 HV
          by_cases h10 : e1 = 10
          · have d10 : (e1 == 10) = true := by simp [h10]
            obtain ⟨p2, hp2⟩ : ∃ x, x = p + e2 := ⟨_, rfl⟩
            obtain ⟨r3, hr3⟩ : ∃ x, x = q + e3 := ⟨_, rfl⟩
            have ep : IntKind.i64.wrap (p + e2) = p2 := by rw [hp2]; exact wrap_in (by omega)
            have eq : IntKind.i64.wrap (q + e3) = r3 := by rw [hr3]; exact wrap_in (by omega)
            have HFF := Lib.hid (show (l.take (k + 1)).foldl pumU (r1, r2, sy) = (p2, r3, u) from by
              rw [HF.out]; unfold pumU; rw [if_pos (by rw [← HEE.out.1]; exact h10), ← HEE.out.2.1, ← HEE.out.2.2, hp2, hr3])
            clear hp2 hr3 HF h10
            go_upto_region 16 with fail
            obtain ⟨w5, hwy⟩ : ∃ x, x = World.setCell w4 ⟨g7, 0, none⟩ (.int .i64 p2) := ⟨_, rfl⟩
            have hAt2 : ShAt w5 g7 p2 q (u : Int) := by rw [hwy]; exact hAt.set0 p2
            have hBt2 : Below w1.heap.size w1 w5 := by rw [hwy]; exact hBt.setCell (p := ⟨g7, 0, none⟩) HG7.out _
            have hEt2 : EvAt w5 g9 es := by rw [hwy]; exact evAt_set hEt hne _ _
            rw [← hwy]
            clear hwy hAt hBt hEt q0 q1 q2 f0 f1 f2
            have hAt := hAt2
            have hBt := hBt2
            have hEt := hEt2
            clear hAt2 hBt2 hEt2
            have q0 := hAt.c0
            have q1 := hAt.c1
            have q2 := hAt.c2
            have f0 := hAt.fz 0
            have f1 := hAt.fz 1
            have f2 := hAt.fz 2
            have m2 : w5.cell? ⟨g9, 2, none⟩ = some (.int .i64 e3) := (hEt.cell 2).trans HE0.out.2.2
            clear m0 ep c9
            go_upto_region 21 with fail
            obtain ⟨w6, hwy⟩ : ∃ x, x = World.setCell w5 ⟨g7, 1, none⟩ (.int .i64 r3) := ⟨_, rfl⟩
            have hAt2 : ShAt w6 g7 p2 r3 (u : Int) := by rw [hwy]; exact hAt.set1 r3
            have hBt2 : Below w1.heap.size w1 w6 := by rw [hwy]; exact hBt.setCell (p := ⟨g7, 1, none⟩) HG7.out _
            have hEt2 : EvAt w6 g9 es := by rw [hwy]; exact evAt_set hEt hne _ _
            rw [← hwy]
            clear hwy hAt hBt hEt q0 q1 q2 f0 f1 f2
            have hAt := hAt2
            have hBt := hBt2
            have hEt := hEt2
            clear hAt2 hBt2 hEt2
            have q0 := hAt.c0
            have q1 := hAt.c1
            have q2 := hAt.c2
            have f0 := hAt.fz 0
            have f1 := hAt.fz 1
            have f2 := hAt.fz 2
            have HV6 := Lib.hid (And.intro HFF.out (And.intro hAt hBt))
            clear m2 eq hAt hBt hEt q0 q1 q2 f0 f1 f2 HFF d10
            go_wp2_with fail
            go_roundw
            case rel => exact ⟨k + 1, p2, r3, u, by go_num, by omega, HV6⟩
            case measure => simp [intOf]; omega
          have d10 : (e1 == 10) = false := by simp [h10]
          by_cases h23 : e1 = 23
          · have d23 : (e1 == 23) = true := by simp [h23]
            obtain ⟨m, hm, hm9⟩ : ∃ m : Nat, e2 = (m : Int) ∧ m < 256 := ⟨e2.toNat, by have := hbd.2.2.2.2 (.inl h23); omega, by have := hbd.2.2.2.2 (.inl h23); omega⟩
            obtain ⟨z, hz⟩ : ∃ z, z = turnW u m true 8 := ⟨_, rfl⟩
            have ez : bits .or .i64 (u : Int) (m : Int) = (z : Int) := by rw [hz]; exact or_turn u m hpq.2.2.2.2 hm9
            have HFF := Lib.hid (show (l.take (k + 1)).foldl pumU (r1, r2, sy) = (p, q, z) from by
              rw [HF.out]; unfold pumU; rw [if_neg (by rw [← HEE.out.1]; exact h10), if_pos (by rw [← HEE.out.1]; exact h23), ← HEE.out.2.1, hm, hz, Int.toNat_natCast])
            rw [hm] at m0
            clear hm hz HF h23 h10 hbd hm9
            go_upto_region 21 with fail
            obtain ⟨w5, hwy⟩ : ∃ x, x = World.setCell w4 ⟨g7, 2, none⟩ (.int .i64 (z : Int)) := ⟨_, rfl⟩
            have hAt2 : ShAt w5 g7 p q (z : Int) := by rw [hwy]; exact hAt.set2 (z : Int)
            have hBt2 : Below w1.heap.size w1 w5 := by rw [hwy]; exact hBt.setCell (p := ⟨g7, 2, none⟩) HG7.out _
            have hEt2 : EvAt w5 g9 es := by rw [hwy]; exact evAt_set hEt hne _ _
            rw [← hwy]
            clear hwy hAt hBt hEt q0 q1 q2 f0 f1 f2
            have hAt := hAt2
            have hBt := hBt2
            have hEt := hEt2
            clear hAt2 hBt2 hEt2
            have q0 := hAt.c0
            have q1 := hAt.c1
            have q2 := hAt.c2
            have f0 := hAt.fz 0
            have f1 := hAt.fz 1
            have f2 := hAt.fz 2
            have HV6 := Lib.hid (And.intro HFF.out (And.intro hAt hBt))
            clear m0 ez hAt hBt hEt q0 q1 q2 f0 f1 f2 HFF d10 d23 c9
            go_wp2_with fail
            go_roundw
            case rel => exact ⟨k + 1, p, q, z, by go_num, by omega, HV6⟩
            case measure => simp [intOf]; omega
          have d23 : (e1 == 23) = false := by simp [h23]
          by_cases h25 : e1 = 25
          · have d25 : (e1 == 25) = true := by simp [h25]
            obtain ⟨m, hm, hm9⟩ : ∃ m : Nat, e2 = (m : Int) ∧ m < 256 := ⟨e2.toNat, by have := hbd.2.2.2.2 (.inr h25); omega, by have := hbd.2.2.2.2 (.inr h25); omega⟩
            obtain ⟨z, hz⟩ : ∃ z, z = turnW u m false 8 := ⟨_, rfl⟩
            have ez : bits .andNot .i64 (u : Int) (m : Int) = (z : Int) := by rw [hz]; exact not_turn u m hpq.2.2.2.2 hm9
            have HFF := Lib.hid (show (l.take (k + 1)).foldl pumU (r1, r2, sy) = (p, q, z) from by
              rw [HF.out]; unfold pumU; rw [if_neg (by rw [← HEE.out.1]; exact h10), if_neg (by rw [← HEE.out.1]; exact h23), if_pos (by rw [← HEE.out.1]; exact h25), ← HEE.out.2.1, hm, hz, Int.toNat_natCast])
            rw [hm] at m0
            clear hm hz HF h25 h23 h10 hbd hm9
            go_upto_region 21 with fail
            obtain ⟨w5, hwy⟩ : ∃ x, x = World.setCell w4 ⟨g7, 2, none⟩ (.int .i64 (z : Int)) := ⟨_, rfl⟩
            have hAt2 : ShAt w5 g7 p q (z : Int) := by rw [hwy]; exact hAt.set2 (z : Int)
            have hBt2 : Below w1.heap.size w1 w5 := by rw [hwy]; exact hBt.setCell (p := ⟨g7, 2, none⟩) HG7.out _
            have hEt2 : EvAt w5 g9 es := by rw [hwy]; exact evAt_set hEt hne _ _
            rw [← hwy]
            clear hwy hAt hBt hEt q0 q1 q2 f0 f1 f2
            have hAt := hAt2
            have hBt := hBt2
            have hEt := hEt2
            clear hAt2 hBt2 hEt2
            have q0 := hAt.c0
            have q1 := hAt.c1
            have q2 := hAt.c2
            have f0 := hAt.fz 0
            have f1 := hAt.fz 1
            have f2 := hAt.fz 2
            have HV6 := Lib.hid (And.intro HFF.out (And.intro hAt hBt))
            clear m0 ez hAt hBt hEt q0 q1 q2 f0 f1 f2 HFF d10 d23 d25 c9
            go_wp2_with fail
            go_roundw
            case rel => exact ⟨k + 1, p, q, z, by go_num, by omega, HV6⟩
            case measure => simp [intOf]; omega
          have d25 : (e1 == 25) = false := by simp [h25]
          have HV6 := Lib.hid (show (l.take (k + 1)).foldl pumU (r1, r2, sy) = (p, q, u) ∧ ShAt w4 g7 p q (u : Int) ∧ Below w1.heap.size w1 w4 from
            ⟨by rw [HF.out]; unfold pumU; rw [if_neg (by rw [← HEE.out.1]; exact h10), if_neg (by rw [← HEE.out.1]; exact h23), if_neg (by rw [← HEE.out.1]; exact h25)], hAt, hBt⟩)
          clear hAt hBt hEt m0 q0 q1 q2 f0 f1 f2 HF h10 h23 h25 hbd
          go_wp2_with fail
          go_roundw
          case rel => exact ⟨k + 1, p, q, u, by go_num, by omega, HV6⟩
          case measure => simp [intOf]; omega
        · have hkn : k = n := by omega
          subst k
          have hpum : l.foldl pumU (r1, r2, sy) = (p, q, u) := by
            have h := HV.out.1
            rw [List.take_of_length_le (by rw [HLN.out]; exact Nat.le_refl _)] at h
            exact h
          have hBt := HV.out.2.2
          have hAt := HV.out.2.1
          have q0 := hAt.c0
          have q1 := hAt.c1
          have q2 := hAt.c2
          have f0 := hAt.fz 0
          have f1 := hAt.fz 1
          have f2 := hAt.fz 2
          obtain ⟨p2, hp2⟩ : ∃ x, x = p + o8 := ⟨_, rfl⟩
          obtain ⟨r3, hr3⟩ : ∃ x, x = q + o9 := ⟨_, rfl⟩
          obtain ⟨z, hz⟩ : ∃ z, z = turnW u o10 true 8 := ⟨_, rfl⟩
          have ep : IntKind.i64.wrap (p + o8) = p2 := by rw [hp2]; exact wrap_in (by omega)
          have eq : IntKind.i64.wrap (q + o9) = r3 := by rw [hr3]; exact wrap_in (by omega)
          have ez : bits .or .i64 (u : Int) (o10 : Int) = (z : Int) := by rw [hz]; exact or_turn u o10 hpq.2.2.2.2 ho10b
          have HANS := Lib.hid (show ans = (p2, r3, z) from by
            rw [HQ.out]
            unfold ofU
            rw [← HCC.out.1, ← HCC.out.2.1, HCC.out.2.2, HBEC.out]
            simp only [Int.toNat_natCast]
            rw [← HOO.out.1, ← HOO.out.2.1, ← HOO.out.2.2.1, HOO.out.2.2.2, ← HPQ.out.1, ← HPQ.out.2, hpum, Int.toNat_natCast, hp2, hr3, hz])
          clear hpum hp2 hr3 hz
          clear HV
          have c7 := (HOC.out wr hBt).2.1
          go_upto_region 23 with fail
          obtain ⟨w5, hwy⟩ : ∃ x, x = World.setCell wr ⟨g7, 0, none⟩ (.int .i64 p2) := ⟨_, rfl⟩
          have hAt2 : ShAt w5 g7 p2 q (u : Int) := by rw [hwy]; exact hAt.set0 p2
          have hBt2 : Below w1.heap.size w1 w5 := by rw [hwy]; exact hBt.setCell (p := ⟨g7, 0, none⟩) HG7.out _
          rw [← hwy]
          clear hwy hAt hBt q0 q1 q2 f0 f1 f2
          have hAt := hAt2
          have hBt := hBt2
          clear hAt2 hBt2
          have q0 := hAt.c0
          have q1 := hAt.c1
          have q2 := hAt.c2
          have f0 := hAt.fz 0
          have f1 := hAt.fz 1
          have f2 := hAt.fz 2
          clear c7 ep
          have c7 := (HOC.out w5 hBt).2.2.1
          go_upto_region 24 with fail
          obtain ⟨w6, hwy⟩ : ∃ x, x = World.setCell w5 ⟨g7, 1, none⟩ (.int .i64 r3) := ⟨_, rfl⟩
          have hAt2 : ShAt w6 g7 p2 r3 (u : Int) := by rw [hwy]; exact hAt.set1 r3
          have hBt2 : Below w1.heap.size w1 w6 := by rw [hwy]; exact hBt.setCell (p := ⟨g7, 1, none⟩) HG7.out _
          rw [← hwy]
          clear hwy hAt hBt q0 q1 q2 f0 f1 f2
          have hAt := hAt2
          have hBt := hBt2
          clear hAt2 hBt2
          have q0 := hAt.c0
          have q1 := hAt.c1
          have q2 := hAt.c2
          have f0 := hAt.fz 0
          have f1 := hAt.fz 1
          have f2 := hAt.fz 2
          clear c7 eq
          have c7 := (HOC.out w6 hBt).2.2.2
          go_upto_region 25 with fail
          obtain ⟨w7, hwy⟩ : ∃ x, x = World.setCell w6 ⟨g7, 2, none⟩ (.int .i64 (z : Int)) := ⟨_, rfl⟩
          have hAt2 : ShAt w7 g7 p2 r3 (z : Int) := by rw [hwy]; exact hAt.set2 (z : Int)
          have hBt2 : Below w1.heap.size w1 w7 := by rw [hwy]; exact hBt.setCell (p := ⟨g7, 2, none⟩) HG7.out _
          rw [← hwy]
          clear hwy hAt hBt q0 q1 q2 f0 f1 f2
          have hAt := hAt2
          have hBt := hBt2
          clear hAt2 hBt2
          have q0 := hAt.c0
          have q1 := hAt.c1
          have q2 := hAt.c2
          have f0 := hAt.fz 0
          have f1 := hAt.fz 1
          have f2 := hAt.fz 2
          clear c7 ez q0 q1 q2 f0 f1 f2
          have hP8 : ShAt w7 gr 0 0 0 := (hBt.block gr HG.out.1).trans HP1.out
          have hsz3 : (Tryd.prog.info? 38).map (·.size) = some (#[.int .i64 p2, .int .i64 r3, .int .i64 (z : Int)] : Array Value).size := shp_size
          have hone3 : (#[.int .i64 p2, .int .i64 r3, .int .i64 (z : Int)] : Array Value).all (·.oneCell') = true := by simp [Value.oneCell']
          have hAt7 : w7.heap[g7]? = some (.cells #[.int .i64 p2, .int .i64 r3, .int .i64 (z : Int)] 38 (0, 0)) := hAt
          have hP7 : w7.heap[gr]? = some (.cells #[.int .i64 0, .int .i64 0, .int .i64 0] 38 (0, 0)) := hP8
          have HBF := Lib.hid (keepB hBt HB1.out)
          clear hAt hBt hP8
          go_wp2_with (first
            | (refine wpList_load_row rfl 38 (.tmp 7) rfl g7 rfl 38 _ (0, 0) _ hAt7 Tryd.underlying38 rfl hsz3 ?_)
            | (refine wpList_store_row rfl 38 (.tmp 6) (.tmp 104) rfl gr _ rfl rfl 38 #[.int .i64 0, .int .i64 0, .int .i64 0] hP7 hsz3 rfl hone3 ?_))
          refine bodyPost_ret (v := .agg #[.int .i64 p2, .int .i64 r3, .int .i64 (z : Int)]) ?_ rfl ?_
          · exact results_cellS (ty := 38) (p := 6) (by kernel_rfl) _ _ gr 38 _ (0, 0) _ rfl (setRow_heap _ _ _ _ _ _ hP7) Tryd.underlying38 rfl hsz3
          · exact ⟨by rw [HANS.out]; rfl, below_setRow HBF.out _ _ HG.out.2.2⟩
end Go.Proofs.YtplfblccaeligaaDoor
namespace Go.Proofs.YtplfblccaeligaaDoor
open Go.RowKit Ex
set_option maxRecDepth 100000
/-- A list without two like numbers, all of which another one has, is no longer. -/
theorem nodup_le : ∀ {a b : List Int}, a.Nodup → (∀ x ∈ a, x ∈ b) → a.length ≤ b.length
  | [], _, _, _ => by simp
  | x :: a, b, hn, hs => by
    have hxb := hs x (by simp)
    rw [List.nodup_cons] at hn
    have h1 := nodup_le (a := a) (b := b.erase x) hn.2 (fun y hy => (List.mem_erase_of_ne (fun e => by subst e; exact hn.1 hy)).2 (hs y (by simp [hy])))
    rw [List.length_erase_of_mem hxb] at h1
    have := List.length_pos_of_mem hxb
    simp only [List.length_cons]; omega
/-- All lists ahead of z, one behind the other. -/
def flatS (s : StT) (z : Nat) : List Int := (List.range z).flatMap s.lists
theorem flatS_succ (s : StT) (z : Nat) : flatS s (z + 1) = flatS s z ++ s.lists z := by simp [flatS, List.range_succ]
theorem flatS_count (s : StT) (id : Nat) : ∀ z, (flatS s z).count (id : Int) = timesN s id z
  | 0 => by simp [flatS, timesN]
  | z + 1 => by rw [flatS_succ, List.count_append, flatS_count s id z, timesN_succ]
theorem flatS_mem {s : StT} {z : Nat} {x : Int} : x ∈ flatS s z ↔ ∃ y, y < z ∧ x ∈ s.lists y := by simp [flatS]
/-- The numbers from 0 on. -/
def idsTo (n : Nat) : List Int := (List.range n).map fun i : Nat => (i : Int)
theorem idsTo_len (n : Nat) : (idsTo n).length = n := by simp [idsTo]
theorem idsTo_mem {n : Nat} {x : Int} : x ∈ idsTo n ↔ 0 ≤ x ∧ x < n := by
  simp only [idsTo, List.mem_map, List.mem_range]
  exact ⟨fun ⟨i, hi, e⟩ => by omega, fun ⟨h0, h1⟩ => ⟨x.toNat, by omega, by omega⟩⟩
theorem idsTo_nodup (n : Nat) : (idsTo n).Nodup := by
  unfold idsTo
  rw [List.nodup_iff_pairwise_ne, List.pairwise_map]
  exact List.nodup_range.imp (fun h e => h (by omega))
/-- What was seen ahead of place k of list y: no number twice, all are objects, each of which may stand there. -/
structure SeenS (s : StT) (y : Nat) (l : List Int) : Prop where
  nd : l.Nodup
  into : ∀ x ∈ l, 0 ≤ x ∧ x < s.objs.length
  may : ∀ z < y, ∀ x ∈ s.lists z, mayB (s.objs.getD x.toNat fun _ => 0) z = true
theorem SeenS.le {s : StT} {y : Nat} {l : List Int} (h : SeenS s y l) : l.length ≤ s.objs.length := by
  have := nodup_le h.nd (b := idsTo s.objs.length) (fun x hx => idsTo_mem.2 (h.into x hx))
  rw [idsTo_len] at this; exact this
theorem mayB_zone {o : Nat → Int} {y : Nat} (h : mayB o y = true) : o 3 = (y : Int) := by
  simp only [mayB, Bool.and_eq_true, beq_iff_eq] at h; exact h.1
theorem mayB_right {o : Nat → Int} {y : Nat} (h : mayB o y = true) : wrongO o = false := by
  have h3 := mayB_zone h
  simp only [mayB, Bool.and_eq_true, beq_iff_eq] at h
  have h2 := h.2
  split at h2
  · rename_i hy
    simp only [Bool.and_eq_true, beq_iff_eq] at h2
    have e8 : (o 3 == 8) = false := by rw [h3]; simp; omega
    have em : (o 3).tmod 2 = (y : Int) % 2 := by rw [h3]; exact Int.tmod_eq_emod_of_nonneg (by omega)
    simp [wrongO, e8, em, h2.1, h2.2]
  · rename_i hy
    have l8 : decide (o 3 < 8) = false := by rw [h3]; simp; omega
    simp only [Bool.or_eq_true, bne_iff_ne, ne_eq] at h2
    rcases h2 with h2 | h2
    · have e8 : (o 3 == 8) = false := by rw [h3]; simp; omega
      simp [wrongO, l8, e8]
    · simp [wrongO, l8, h2]
theorem mayB_wrong {o : Nat → Int} {y : Nat} (h : mayB o y = false) (h3 : o 3 = (y : Int)) : wrongO o = true := by
  unfold mayB at h
  rw [h3] at h
  simp only [beq_self_eq_true, Bool.true_and] at h
  split at h
  · rename_i hy
    have em : (o 3).tmod 2 = (y : Int) % 2 := by rw [h3]; exact Int.tmod_eq_emod_of_nonneg (by omega)
    have l8 : decide (o 3 < 8) = true := by rw [h3]; simp; omega
    unfold wrongO
    rw [l8, em]
    cases h1 : (o 1 == (y : Int) % 2) <;> cases h13 : (o 13 == 0) <;> simp_all [bne]
  · rename_i hy
    simp only [Bool.or_eq_false_iff, bne_eq_false_iff_eq] at h
    obtain ⟨rfl, h13⟩ := h
    simp [wrongO, h3, h13]
/-- All was seen: the lists are right if there are as many as objects. -/
theorem zones_seen {s : StT} (h : SeenS s 11 (flatS s 11)) : zonesB s = ((flatS s 11).length == s.objs.length) := by
  have hl : listsB s = true := by
    unfold listsB
    rw [List.all_eq_true]
    intro z hz
    unfold idsB
    rw [List.all_eq_true]
    intro x hx
    have := h.into x (flatS_mem.2 ⟨z, List.mem_range.1 hz, hx⟩)
    simp; omega
  have hone : ∀ id : Nat, (id : Int) ∈ flatS s 11 → timesN s id 11 = 1 := fun id hm => by
    rw [← flatS_count]
    have h1 := List.nodup_iff_count.1 h.nd (id : Int)
    have h2 := List.count_pos_iff.2 hm
    omega
  by_cases e : (flatS s 11).length = s.objs.length
  · rw [show ((flatS s 11).length == s.objs.length) = true by simpa using e]
    have hin : ∀ id : Nat, id < s.objs.length → (id : Int) ∈ flatS s 11 := fun id hid => by
      apply Classical.byContradiction
      intro hno
      have := nodup_le (a := (id : Int) :: flatS s 11) (b := idsTo s.objs.length) (List.nodup_cons.2 ⟨hno, h.nd⟩) (fun x hx => by
        rcases List.mem_cons.1 hx with hx | hx
        · subst hx; exact idsTo_mem.2 ⟨by omega, by omega⟩
        · exact idsTo_mem.2 (h.into x hx))
      rw [idsTo_len, List.length_cons] at this
      omega
    refine zonesB_good hl fun id hid _ => ?_
    have hm := hin id hid
    obtain ⟨y, hy, hmy⟩ := flatS_mem.1 hm
    have hg : (s.objs.getD (id : Int).toNat fun _ => 0) = s.objs[id] := by rw [Int.toNat_natCast, List.getD_eq_getElem?_getD, List.getElem?_eq_getElem hid]; rfl
    have hmay := h.may y hy _ hmy
    rw [hg] at hmay
    have ha : apartB s id (s.objs[id] 3) = true := apartB_good fun z hz => by
      by_cases hm2 : (id : Int) ∈ s.lists z
      · have := h.may z hz _ hm2
        rw [hg] at this
        exact .inl (mayB_zone this).symm
      · exact .inr hm2
    rw [zoneO, ha, hone id hm, mayB_right hmay]; rfl
  · rw [show ((flatS s 11).length == s.objs.length) = false by simpa using e]
    have hle := h.le
    rw [Bool.eq_false_iff]
    intro hz
    refine e (Nat.le_antisymm hle ?_)
    have hall : ∀ id : Nat, id < s.objs.length → (id : Int) ∈ flatS s 11 := fun id hid => by
      have hzo : zoneO s id s.objs[id] = true := by
        cases hq : zoneO s id s.objs[id] with
        | true => rfl
        | false => rw [zonesB_obj hid hq] at hz; cases hz
      have ht : timesN s id 11 = 1 := by
        simp only [zoneO, Bool.and_eq_true, beq_iff_eq] at hzo; exact hzo.1.2
      rw [← flatS_count] at ht
      exact List.count_pos_iff.1 (by omega)
    have := nodup_le (idsTo_nodup s.objs.length) (b := flatS s 11) (fun x hx => by
      obtain ⟨h0, h1⟩ := idsTo_mem.1 hx
      have := hall x.toNat (by omega)
      rwa [show ((x.toNat : Nat) : Int) = x by omega] at this)
    rw [idsTo_len] at this
    exact this
/-- A number stands twice. -/
theorem zones_twice {s : StT} {y k : Nat} {x : Int} (hy : y < 11) (hx : (s.lists y)[k]? = some x) (hm : x ∈ flatS s y ++ (s.lists y).take k) (h0 : 0 ≤ x) (h1 : x < s.objs.length) : zonesB s = false := by
  obtain ⟨id, rfl⟩ : ∃ id : Nat, x = (id : Int) := ⟨x.toNat, by omega⟩
  have hid : id < s.objs.length := by omega
  refine zonesB_obj hid ?_
  have h2 : 2 ≤ timesN s id 11 := by
    have hs : ∀ m, timesN s id (y + 1) ≤ timesN s id (y + 1 + m) := fun m => by
      induction m with
      | zero => exact Nat.le_refl _
      | succ m ih => exact Nat.le_trans ih (by rw [show y + 1 + (m + 1) = (y + 1 + m) + 1 by omega, timesN_succ s id (y + 1 + m)]; omega)
    have h := hs (11 - (y + 1))
    rw [show y + 1 + (11 - (y + 1)) = 11 by omega] at h
    refine Nat.le_trans ?_ h
    have hkl : k < (s.lists y).length := (List.getElem?_eq_some_iff.1 hx).1
    have hc : ((s.lists y).take (k + 1)).count (id : Int) ≤ (s.lists y).count (id : Int) := (List.take_sublist _ _).count_le _
    rw [st_count_step hkl, if_pos (List.getElem?_eq_some_iff.1 hx).2] at hc
    have hp : 0 < (flatS s y ++ (s.lists y).take k).count (id : Int) := List.count_pos_iff.2 hm
    rw [List.count_append, flatS_count] at hp
    rw [timesN_succ]
    omega
  rw [zoneO, show (timesN s id 11 == 1) = false by simp; omega]
  simp
/-- One that may not stand there. -/
theorem zones_may {s : StT} {y k : Nat} {x : Int} (hy : y < 11) (hx : (s.lists y)[k]? = some x) (h0 : 0 ≤ x) (h1 : x < s.objs.length) (hm : mayB (s.objs.getD x.toNat fun _ => 0) y = false) : zonesB s = false := by
  obtain ⟨id, rfl⟩ : ∃ id : Nat, x = (id : Int) := ⟨x.toNat, by omega⟩
  have hid : id < s.objs.length := by omega
  rw [Int.toNat_natCast, List.getD_eq_getElem?_getD, List.getElem?_eq_getElem hid, Option.getD_some] at hm
  refine zonesB_obj hid ?_
  by_cases h3 : s.objs[id] 3 = (y : Int)
  · rw [zoneO, mayB_wrong hm h3]; simp
  · rw [zoneO, apartB_bad hy (Ne.symm h3) (List.mem_of_getElem? hx)]; rfl
end Go.Proofs.YtplfblccaeligaaDoor
namespace Go.Proofs.YtplfblccaeligaaDoor
open Go.RowKit Ex
attribute [local go_sem] arr_get
set_option maxRecDepth 100000
/-- An array of truth values. -/
def bArr (n : Nat) (f : Nat → Bool) : Array Value := (Array.range n).map fun i => Value.bool (f i)
theorem bArr_get (n : Nat) (f : Nat → Bool) {i : Nat} (h : i < n) : (bArr n f)[i]? = some (.bool (f i)) := by simp [bArr, h]
theorem bArr_set (n : Nat) (f : Nat → Bool) (j : Nat) (x : Bool) : (bArr n f).setIfInBounds j (.bool x) = bArr n (fun i => if i = j then x else f i) := by
  apply Array.ext
  · simp [bArr]
  · intro i h1 h2
    simp [bArr] at h1 h2
    rw [Array.getElem_setIfInBounds (by simp [bArr]; exact h2)]
    by_cases e : j = i
    · subst e; simp [bArr]
    · simp [bArr, e, show ¬ i = j from fun h => e h.symm]
/-- Block g tells which numbers were seen. -/
def Marks (w : World) (g : Nat) (l : List Int) : Prop := w.heap[g]? = some (.cells (bArr 400 fun i => decide ((i : Int) ∈ l)) 100 (0, 0))
theorem Marks.lt {w : World} {g : Nat} {l : List Int} (h : Marks w g l) : g < w.heap.size := (Array.getElem?_eq_some_iff.1 h).1
theorem Marks.keep {w w' : World} {g : Nat} {l : List Int} (h : Marks w g l) (hb : Below w.heap.size w w') : Marks w' g l := (hb.block g h.lt).trans h
theorem Marks.cell {w : World} {g : Nat} {l : List Int} (h : Marks w g l) {i : Nat} (hi : i < 400) : w.cell? ⟨g, i, none⟩ = some (.bool (decide ((i : Int) ∈ l))) := by
  rw [cell_of_row w g i _ _ _ h, bArr_get 400 _ hi]
theorem Marks.set_ {w : World} {g : Nat} {l : List Int} (h : Marks w g l) (i : Nat) : Marks (w.setCell ⟨g, i, none⟩ (.bool true)) g (l ++ [(i : Int)]) := by
  unfold Marks
  rw [heap_setCell_same w g i _ _ _ h, bArr_set]
  congr 2
  congr 1
  funext j
  by_cases e : j = i
  · subst e; simp
  · simp [e, show ¬ (j : Int) = (i : Int) by omega]
theorem zero400 (W : World) : (zeroValue 100).run Tryd.prog W = .ok (.agg (bArr 400 fun _ => false)) W := by kernel_rfl
def MayK (s : StT) (y : Nat) (l : List Int) (k : Nat) : Prop := ∀ m, m < k → ∀ x, l[m]? = some x → mayB (s.objs.getD x.toNat fun _ => 0) y = true
theorem SeenS.next {s : StT} {y k : Nat} {x : Int} (h : SeenS s y (flatS s y ++ (s.lists y).take k)) (hx : (s.lists y)[k]? = some x) (hno : ¬ x ∈ flatS s y ++ (s.lists y).take k) (h0 : 0 ≤ x) (h1 : x < s.objs.length) : SeenS s y (flatS s y ++ (s.lists y).take (k + 1)) := by
  have hk : k < (s.lists y).length := (List.getElem?_eq_some_iff.1 hx).1
  have e : flatS s y ++ (s.lists y).take (k + 1) = (flatS s y ++ (s.lists y).take k) ++ [x] := by
    rw [List.take_succ_eq_append_getElem hk, (List.getElem?_eq_some_iff.1 hx).2, List.append_assoc]
  rw [e]
  refine ⟨?_, fun z hz => ?_, h.may⟩
  · rw [List.nodup_append]
    refine ⟨h.nd, by simp, fun a ha b hb => ?_⟩
    simp at hb; subst hb
    intro e; subst e; exact hno ha
  · rcases List.mem_append.1 hz with hz | hz
    · exact h.into z hz
    · simp at hz; subst hz; exact ⟨h0, h1⟩
theorem SeenS.done {s : StT} {y : Nat} (h : SeenS s y (flatS s y ++ s.lists y)) (hm : MayK s y (s.lists y) (s.lists y).length) : SeenS s (y + 1) (flatS s (y + 1)) := by
  rw [flatS_succ]
  refine ⟨h.nd, h.into, fun z hz x hx => ?_⟩
  by_cases e : z = y
  · subst e
    obtain ⟨m, hm1, hm2⟩ := List.getElem_of_mem hx
    exact hm m hm1 x (by rw [List.getElem?_eq_getElem hm1, hm2])
  · exact h.may z (by omega) x hx
/-- What stands while the lists are gone through. -/
structure LfS (w : World) (cs : Array Value) (g : Nat) (l : List Int) (W : World) : Prop where
  b : Below w.heap.size w W
  s : StAt W w.heap.size cs
  m : Marks W g l
theorem LfS.keep {w : World} {cs : Array Value} {g : Nat} {l : List Int} {W W' : World} (h : LfS w cs g l W) (hb : Below W.heap.size W W') : LfS w cs g l W' := ⟨keepB hb h.b, h.s.keep hb, h.m.keep hb⟩
theorem LfS.set_ {w : World} {cs : Array Value} {g : Nat} {l : List Int} {W : World} (h : LfS w cs g l W) (hg : w.heap.size < g) (i : Nat) : LfS w cs g (l ++ [(i : Int)]) (W.setCell ⟨g, i, none⟩ (.bool true)) :=
  ⟨h.b.setCell (by simp; omega) _, (heap_setCell_other W ⟨g, i, none⟩ w.heap.size _ (by simp; omega)).trans h.s, h.m.set_ i⟩
set_option maxHeartbeats 0 in
theorem lists_code (s : StT) (O : SlT) (L : Nat → SlT) (cs : Array Value) (w : World) (B : Nat) (h : ReadsS B w cs s O L) (hB : B ≤ w.heap.size) (hn : s.objs.length ≤ 400) (hll : ∀ z < 11, (s.lists z).length ≤ 1000000) :
    Calls Tryd.prog 46 #[.agg cs] w fun e w' => e = .returned (.bool (zonesB s)) ∧ Below w.heap.size w w' := by
  obtain ⟨q, hq⟩ : ∃ q, q = zonesB s := ⟨_, rfl⟩
  rw [← hq]
  have HQ := Lib.hid hq
  clear hq
  go_enter Tryd.func46, Tryd.ntmps46
  have hcs := h.cs
  have c0 : cs[0]? = some (.slice O.A O.n O.c) := by rw [hcs]; exact stC_objs _ _ _ _
  have hOn := h.on
  have hOc := h.oc
  have hO := h.o
  have hsz : (Tryd.prog.info? 29).map (·.size) = some cs.size := by rw [h.size]; exact size37
  have H := Lib.hid h
  clear h
  obtain ⟨A, n, c⟩ := O
  simp only at c0 hOn hOc hO
  have HC := Lib.hid hcs
  clear hcs
  subst hOn
  go_upto_region 1 with fail
  have hs0 : StAt (w.alloc (.cells cs 29)) w.heap.size cs := StAt.new _ _
  have hb0 : Below w.heap.size w (w.alloc (.cells cs 29)) := (Below.refl _ _).alloc (Nat.le_refl _) _
  obtain ⟨w1, hw1⟩ : ∃ w1, w1 = w.alloc (.cells cs 29) := ⟨_, rfl⟩
  rw [← hw1] at hs0 hb0 ⊢
  clear hw1
  have c1 := (hs0.cell 0).trans c0
  obtain ⟨zs, hzs⟩ : ∃ zs, zs = bArr 400 fun _ => false := ⟨_, rfl⟩
  have hz0 := zero400
  rw [← hzs] at hz0
  have hz1 : zs.size = 400 := by rw [hzs]; simp [bArr]
  have hz2 : ¬ zs = #[] := fun e => by rw [e] at hz1; cases hz1
  have HZ := Lib.hid hzs
  clear hzs
  go_upto_region 3 with fail
  have HLs := Lib.hid (show LfS w cs w1.heap.size [] (w1.alloc (.cells zs 100)) from by
    have hb1 : Below w1.heap.size w1 (w1.alloc (.cells zs 100)) := (Below.refl _ _).alloc (Nat.le_refl _) _
    refine ⟨keepB hb1 hb0, hs0.keep hb1, ?_⟩
    unfold Marks
    rw [heap_alloc_new, HZ.out]
    simp)
  obtain ⟨g, hg⟩ : ∃ g, g = w1.heap.size := ⟨_, rfl⟩
  have hgw : w.heap.size < g := by rw [hg]; exact hs0.lt
  obtain ⟨w2, hw2⟩ : ∃ w2, w2 = w1.alloc (.cells zs 100) := ⟨_, rfl⟩
  rw [← hg, ← hw2] at HLs
  rw [← hg, ← hw2]
  clear hz0 hz1 hz2 HZ zs hs0 hb0 c1 hg hw2 w1
  have hs2 := HLs.out.s
  have hra := hs2
  rw [HC.out] at hra
  have hra := hra.ls
  go_upto_region 4 with (refine load_lists rfl (.tmp 9) rfl w.heap.size 1 rfl (sl11 L) (sl11_size L) hra ?_)
  clear hra hs2
  have HS0 := Lib.hid (show SeenS s 0 (flatS s 0) from ⟨by simp [flatS], fun x hx => by simp [flatS] at hx, fun z hz => absurd hz (by omega)⟩)
  go_loopw [4, 11] (fun c i wr => ∃ y : Nat, i = .int .i64 ((y : Nat) : Int) ∧ c = .int .i64 (((flatS s y).length : Nat) : Int) ∧ y ≤ 11 ∧ Hid (SeenS s y (flatS s y)) ∧ Hid (LfS w cs g (flatS s y) wr)) (fun _ i _ => 11 - (intOf i).toNat)
  case atStart => exact ⟨0, rfl, rfl, by omega, HS0, HLs⟩
  case round =>
    clear HLs HS0
    obtain ⟨y, rfl, rfl, hy, HS, HM⟩ := hrel
    have hfl : (flatS s y).length ≤ 400 := by have := HS.out.le; omega
    by_cases hlt : y < 11
    · have hd : decide ((y : Int) < 11) = true := by simp; omega
      obtain ⟨A2, n2, c2, hc2, hnc2, hN⟩ := list_at H.out hlt
      have hln := hN.len
      have hnm : n2 ≤ 1000000 := hln ▸ hll y hlt
      have HN := Lib.hid hN
      clear hN
      go_upto_region 7 with fail
      clear hc2
      have HS2 := Lib.hid (show SeenS s y (flatS s y ++ (s.lists y).take 0) by rw [List.take_zero, List.append_nil]; exact HS.out)
      have HM2 := Lib.hid (show LfS w cs g (flatS s y ++ (s.lists y).take 0) wr by rw [List.take_zero, List.append_nil]; exact HM.out)
      have HK0 := Lib.hid (show MayK s y (s.lists y) 0 from fun m hm => absurd hm (by omega))
      go_loopw [4, 17] (fun c i wq => ∃ k : Nat, i = .int .i64 ((k : Nat) : Int) ∧ c = .int .i64 (((flatS s y ++ (s.lists y).take k).length : Nat) : Int) ∧ k ≤ n2 ∧ Hid (SeenS s y (flatS s y ++ (s.lists y).take k)) ∧ Hid (MayK s y (s.lists y) k) ∧ Hid (LfS w cs g (flatS s y ++ (s.lists y).take k) wq)) (fun _ i _ => n2 - (intOf i).toNat)
      case atStart => exact ⟨0, rfl, by rw [List.take_zero, List.append_nil], by omega, HS2, HK0, HM2⟩
      case round =>
        clear HS2 HK0 HM2 HS HM hfl
        obtain ⟨k, rfl, rfl, hk, HS, HK, HM⟩ := hrel
        have hfl : (flatS s y ++ (s.lists y).take k).length ≤ 400 := by have := HS.out.le; omega
        obtain ⟨l, hl⟩ : ∃ l, l = flatS s y ++ (s.lists y).take k := ⟨_, rfl⟩
        rw [← hl] at HS HM hfl
        rw [← hl]
        have HL := Lib.hid hl
        clear hl
        by_cases hkn : k < n2
        · have hd2 : decide ((k : Int) < (n2 : Int)) = true := by simp; omega
          obtain ⟨a, rfl, hab, hca⟩ := HN.out.at_ (show k < (s.lists y).length by omega)
          replace hca := (HM.out.b.cell (by rw [addr_block]; omega)).trans hca
          obtain ⟨x, hx⟩ : ∃ x, x = (s.lists y)[k]'(by omega) := ⟨_, rfl⟩
          rw [← hx] at hca
          have HX := Lib.hid (show (s.lists y)[k]? = some x by rw [hx]; exact List.getElem?_eq_getElem (by omega))
          clear hx
          have g0 : (0 : Int) ≤ (k : Int) := by omega
          have g1 : (k : Int) < (n2 : Int) := by omega
          have c3 := (HM.out.s.cell 0).trans c0
          have hbw := HM.out.b
          by_cases hx0 : x < 0
          · have d0 : decide (x < 0) = true := decide_eq_true hx0
            have hf : zonesB s = false := zonesB_list hlt (idsB_bad (k := k) (by omega) (.inl (by rw [(List.getElem?_eq_some_iff.1 HX.out).2]; exact hx0)))
            obtain rfl := HQ.out.trans hf
            clear hf
            go_wp2_with fail
            go_ret
            exact ⟨rfl, hbw⟩
          have d0 : decide (x < 0) = false := decide_eq_false hx0
          by_cases hxn : (s.objs.length : Int) ≤ x
          · have d1 : decide ((s.objs.length : Int) ≤ x) = true := decide_eq_true hxn
            have hf : zonesB s = false := zonesB_list hlt (idsB_bad (k := k) (by omega) (.inr (by rw [(List.getElem?_eq_some_iff.1 HX.out).2]; exact hxn)))
            obtain rfl := HQ.out.trans hf
            clear hf
            go_wp2_with fail
            go_ret
            exact ⟨rfl, hbw⟩
          have d1 : decide ((s.objs.length : Int) ≤ x) = false := decide_eq_false hxn
          obtain ⟨id, rfl⟩ : ∃ id : Nat, x = (id : Int) := ⟨x.toNat, by omega⟩
          have hid : id < s.objs.length := by omega
          have hcm := HM.out.m.cell (i := id) (by omega)
          have b0 : (0 : Int) ≤ (id : Int) := by omega
          have b1 : (id : Int) < 400 := by omega
          have b2 : (id : Int) < (s.objs.length : Int) := by omega
          have d1' : decide (s.objs.length ≤ id) = false := by simp; omega
          clear hx0 hxn
          by_cases hin : (id : Int) ∈ l
          · rw [show decide ((id : Int) ∈ l) = true by simpa using hin] at hcm
            have hf : zonesB s = false := zones_twice hlt HX.out (by rw [← HL.out]; exact hin) (by omega) b2
            obtain rfl := HQ.out.trans hf
            clear hf
            go_wp2_with fail
            go_ret
            exact ⟨rfl, hbw⟩
          rw [show decide ((id : Int) ∈ l) = false by simpa using hin] at hcm
          obtain ⟨b, off, rfl, hbB, hra⟩ := hO.at_ hid
          have hra := range_below hbw (by omega) hra
          obtain ⟨o, ho⟩ : ∃ o, o = s.objs[id] := ⟨_, rfl⟩
          rw [← ho] at hra
          have HO : (s.objs.getD (id : Int).toNat fun _ => 0) = o := by rw [Int.toNat_natCast, List.getD_eq_getElem?_getD, List.getElem?_eq_getElem hid, ho]; rfl
          have HO := Lib.hid HO
          clear ho
          have hmay := mayStand_any o y hlt
          obtain ⟨r, hr⟩ : ∃ r, r = mayB o y := ⟨_, rfl⟩
          rw [← hr] at hmay
          have HR := Lib.hid hr
          clear hr
          go_wp2_with (refine load_objW (by rfl) (.tmp 39) rfl b (off + id * 18) rfl o hra ?_)
          refine (hmay _).mono ?_
          rintro e w4 ⟨rfl, hb4⟩
          clear hmay hra hca hcm c3
          have HM4 := Lib.hid (HM.out.keep hb4)
          have hbw := HM4.out.b
          by_cases hrt : r = true
          case neg =>
            obtain rfl : r = false := by simpa using hrt
            have hf : zonesB s = false := zones_may hlt HX.out (by omega) b2 (by rw [HO.out]; exact HR.out.symm)
            obtain rfl := HQ.out.trans hf
            clear hf
            go_wp2_with fail
            go_ret
            exact ⟨rfl, hbw⟩
          subst hrt
          have hcm := HM4.out.m.cell (i := id) (by omega)
          have hfz := frozen_of_row w4 g id _ _ HM4.out.m
          have HS2 := Lib.hid (HS.out)
          rw [HL.out] at HS2
          have HS3 := Lib.hid (HS2.out.next HX.out (by rw [← HL.out]; exact hin) (by omega) b2)
          have HK2 := Lib.hid (show MayK s y (s.lists y) (k + 1) from fun m hm x hx => by
            by_cases e : m = k
            · subst e
              rw [HX.out] at hx
              injection hx with hx
              rw [← hx, HO.out]; exact HR.out.symm
            · exact HK.out m (by omega) x hx)
          have hlk : flatS s y ++ (s.lists y).take (k + 1) = l ++ [(id : Int)] := by
            rw [List.take_succ_eq_append_getElem (by omega), (List.getElem?_eq_some_iff.1 HX.out).2, ← List.append_assoc, ← HL.out]
          have HLK := Lib.hid hlk
          clear hlk HS2
          have HM5 := Lib.hid (HM4.out.set_ hgw id)
          rw [← HLK.out] at HM5
          have HN5 := Lib.hid (show (flatS s y ++ (s.lists y).take (k + 1)).length = l.length + 1 by rw [HLK.out]; simp)
          clear hin hbw
          go_wp2_with fail
          go_roundw
          case rel => exact ⟨k + 1, by go_num, by rw [HN5.out]; go_num, by omega, HS3, HK2, HM5⟩
          case measure => simp [intOf]; omega
        · obtain rfl : k = n2 := by omega
          have hd2 : decide ((k : Int) < (k : Int)) = false := by simp
          have hle : flatS s (y + 1) = l := by rw [flatS_succ, HL.out, List.take_of_length_le (by omega)]
          have HLE := Lib.hid hle
          have HS3 := Lib.hid (show SeenS s (y + 1) (flatS s (y + 1)) from SeenS.done (by rw [← flatS_succ, HLE.out]; exact HS.out) (by rw [hln]; exact HK.out))
          have HM5 := Lib.hid (show LfS w cs g (flatS s (y + 1)) wr by rw [HLE.out]; exact HM.out)
          clear hle
          go_wp2_with fail
          go_roundw
          case rel => exact ⟨y + 1, by go_num, by rw [HLE.out], by omega, HS3, HM5⟩
          case measure => simp [intOf]; omega
    · obtain rfl : y = 11 := by omega
      have hf := zones_seen HS.out
      have c3 := (HM.out.s.cell 0).trans c0
      have hbw := HM.out.b
      obtain ⟨m, hm⟩ : ∃ m, m = (flatS s 11).length := ⟨_, rfl⟩
      rw [← hm] at hf hfl ⊢
      clear hm
      by_cases e : m = s.objs.length
      · have de : ((m : Int) == (s.objs.length : Int)) = true := by simp; omega
        rw [show (m == s.objs.length) = true by simpa using e] at hf
        obtain rfl := HQ.out.trans hf
        clear hf
        go_wp2_with fail
        go_ret
        exact ⟨rfl, hbw⟩
      · have de : ((m : Int) == (s.objs.length : Int)) = false := by simp; omega
        rw [show (m == s.objs.length) = false by simpa using e] at hf
        obtain rfl := HQ.out.trans hf
        clear hf
        go_wp2_with fail
        go_ret
        exact ⟨rfl, hbw⟩
end Go.Proofs.YtplfblccaeligaaDoor
namespace Go.Proofs.YtplfblccaeligaaDoor
open Go.RowKit Ex
attribute [local go_sem] arr_get
set_option maxRecDepth 100000
theorem ranges_zone {s : StT} (h : rangesB s = true) {k : Nat} (hk : k < s.objs.length) : 0 ≤ s.objs[k] 3 := by
  simp only [rangesB, Bool.and_eq_true] at h
  have := List.all_eq_true.1 h.1.1.1 _ (List.getElem_mem hk)
  rw [objectB_is] at this
  have := fitsB_iff.1 this 3 (by omega)
  simp only [inR, Bool.and_eq_true, decide_eq_true_eq, spanO] at this
  exact this.1
set_option maxHeartbeats 0 in
theorem check_code {z : World} (T : TabF z) (s : StT) (O : SlT) (L : Nat → SlT) (cs : Array Value) (w : World) (B : Nat) (h : ReadsS B w cs s O L) (hB : B ≤ w.heap.size) (hn : s.objs.length ≤ 1000000) (hll : ∀ z < 11, (s.lists z).length ≤ 1000000) (hzw : Below z.heap.size z w) :
    Calls Tryd.prog 30 #[.agg cs] w fun e w' => e = .returned (errV (chkS s)) ∧ Below w.heap.size w w' := by
  obtain ⟨q, hq⟩ : ∃ q, q = errV (chkS s) := ⟨_, rfl⟩
  rw [← hq]
  have HQ := Lib.hid hq
  clear hq
  go_enter Tryd.func30, Tryd.ntmps30
  have hcs := h.cs
  have c0 : cs[0]? = some (.slice O.A O.n O.c) := by rw [hcs]; exact stC_objs _ _ _ _
  have hOn := h.on
  have hOc := h.oc
  have hO := h.o
  have hsz : (Tryd.prog.info? 29).map (·.size) = some cs.size := by rw [h.size]; exact size37
  have H := Lib.hid h
  clear h
  obtain ⟨A, n, c⟩ := O
  simp only at c0 hOn hOc hO
  have HC := Lib.hid hcs
  clear hcs
  subst hOn
  go_upto_region 1 with fail
  have hs0 : StAt (w.alloc (.cells cs 29)) w.heap.size cs := StAt.new _ _
  have hb0 : Below w.heap.size w (w.alloc (.cells cs 29)) := (Below.refl _ _).alloc (Nat.le_refl _) _
  obtain ⟨w1, hw1⟩ : ∃ w1, w1 = w.alloc (.cells cs 29) := ⟨_, rfl⟩
  rw [← hw1] at hs0 hb0 ⊢
  clear hw1
  have c1 := (hs0.cell 0).trans c0
  by_cases h4 : 400 < s.objs.length
  · have d4 : decide ((400 : Int) < (s.objs.length : Int)) = true := by simp; omega
    have hf : errV (chkS s) = .iface 72 (.int .i64 5) := by rw [show chkS s = 5 by simp [chkS, h4]]; rfl
    obtain rfl := HQ.out.trans hf
    clear hf
    go_wp2_with fail
    go_ret
    exact ⟨rfl, hb0⟩
  have d4 : decide ((400 : Int) < (s.objs.length : Int)) = false := by simp; omega
  go_wp2_with (refine wpList_load_row rfl 29 (.tmp 1) rfl w.heap.size rfl 29 _ (0, 0) _ hs0 Tryd.underlying29 rfl hsz ?_)
  refine (numbers_code s _ L cs w1 _ ((H.out.more hB).below hb0) hb0.size hn).mono ?_
  rintro e w2 ⟨rfl, hb2⟩
  have hb := keepB hb2 hb0
  have hs2 := hs0.keep hb2
  clear c1
  by_cases hr : rangesB s = true
  case neg =>
    have fr : rangesB s = false := by simpa using hr
    have hf : errV (chkS s) = .iface 72 (.int .i64 1) := by rw [show chkS s = 1 by simp [chkS, h4, fr]]; rfl
    obtain rfl := HQ.out.trans hf
    clear hf
    go_wp2_with fail
    go_ret
    exact ⟨rfl, hb⟩
  have HRz := Lib.hid (fun k (hk : k < s.objs.length) => ranges_zone hr hk)
  go_wp2_with (refine wpList_load_row rfl 29 (.tmp 1) rfl w.heap.size rfl 29 _ (0, 0) _ hs2 Tryd.underlying29 rfl hsz ?_)
  refine (lists_code s _ L cs w2 _ ((H.out.more hB).below hb) hb.size (by omega) hll).mono ?_
  rintro e w3 ⟨rfl, hb3⟩
  have hbb := keepB hb3 hb
  have hs3 := hs2.keep hb3
  clear hb hb2 hs2 hb0 hs0 hb3
  by_cases hz : zonesB s = true
  case neg =>
    have fq : zonesB s = false := by simpa using hz
    have hf : errV (chkS s) = .iface 72 (.int .i64 12) := by rw [show chkS s = 12 by simp [chkS, h4, hr, fq]]; rfl
    obtain rfl := HQ.out.trans hf
    clear hf
    go_wp2_with fail
    go_ret
    exact ⟨rfl, hbb⟩
  have c3 := (hs3.cell 0).trans c0
  go_upto_region 8 with fail
  have hg0 : GoodF s 0 := fun j hj hk => absurd hk (by omega)
  go_loopw [21] (fun i wr => ∃ k : Nat, i = .int .i64 ((k : Nat) : Int) ∧ k ≤ s.objs.length ∧ GoodF s k ∧ Below w.heap.size w wr) (fun i _ => s.objs.length - (intOf i).toNat)
  case atStart => exact ⟨0, rfl, by omega, hg0, hbb⟩
  case round =>
    clear hbb hs3 c3 hg0
    obtain ⟨k, rfl, hk, hgood, hbr⟩ := hrel
    by_cases hlt : k < s.objs.length
    · have hlk := hlt
      obtain ⟨b, off, rfl, hbB, hra⟩ := hO.at_ hlt
      have hra := range_below hbr (by omega) hra
      obtain ⟨x, hx⟩ : ∃ x, x = s.objs[k] := ⟨_, rfl⟩
      rw [← hx] at hra
      have HX := Lib.hid hx
      clear hx
      have hz := st_zero18
      have hnew : (wr.alloc (.cells (arr .i64 18 fun _ => 0) 37)).heap[wr.heap.size]? = some (.cells (arr .i64 18 fun _ => 0) 37 (0, 0)) := heap_alloc_new _ _
      have hsx : (Tryd.prog.info? 37).map (·.size) = some (arr .i64 18 x).size := by rw [arr_size]; exact st_size18
      go_upto_region 10 with (first
        | (refine load_obj rfl (.tmp 23) rfl b (off + k * 18) rfl x hra ?_)
        | (refine wpList_store_row rfl 37 (.tmp 4) (.tmp 24) rfl wr.heap.size _ rfl rfl 37 (arr .i64 18 fun _ => 0) hnew hsx (by rw [arr_size, arr_size]) (arr_one .i64 18 x) ?_))
      obtain ⟨wn, hwn, hEn, hbn⟩ := ob_box wr x
      rw [← hwn]
      have hbrn := keepB hbn hbr
      clear hwn hnew hra hz
      have xs : ∀ i < 18, wn.cell? ⟨wr.heap.size, i, none⟩ = some (.int .i64 (x i)) := fun i hi => by
        have h := cell_of_row wn wr.heap.size i _ _ _ hEn
        rw [arr_get .i64 18 x hi] at h
        exact h
      clear xs
      have hff := formFits_any T x wn (by rw [HX.out]; exact HRz.out k hlt) (hzw.trans (hbrn.mono hzw.size))
      obtain ⟨r, hrr⟩ : ∃ r, r = formedB x := ⟨_, rfl⟩
      rw [← hrr] at hff
      have HR := Lib.hid hrr
      clear hrr
      go_wp2_with (refine wpList_load_row rfl 37 (.tmp 4) rfl wr.heap.size rfl 37 _ (0, 0) _ hEn Tryd.underlying37 rfl hsx ?_)
      refine hff.mono ?_
      rintro e w4 ⟨rfl, hb4⟩
      clear hff
      have hbr4 := keepB hb4 hbrn
      clear hEn hbn hbrn hbr
      by_cases hy : r = true
      · subst hy
        have hgood2 : GoodF s (k + 1) := fun j hj hjk => by
          by_cases e : j = k
          · subst e; rw [← HX.out]; exact HR.out.symm
          · exact hgood j hj (by omega)
        go_wp2_with fail
        go_roundw
        case rel => exact ⟨k + 1, by go_num, by omega, hgood2, hbr4⟩
        case measure => simp [intOf]; omega
      · obtain rfl : r = false := by simpa using hy
        have fa := form_bad hlt (by rw [← HX.out]; exact HR.out.symm)
        have hf : errV (chkS s) = .iface 72 (.int .i64 2) := by rw [show chkS s = 2 by rw [chkS, if_neg h4, hr, hz, fa]; rfl]; rfl
        clear fa
        obtain rfl := HQ.out.trans hf
        clear hf
        go_wp2_with fail
        go_ret
        exact ⟨rfl, hbr4⟩
    · obtain rfl : k = s.objs.length := by omega
      have fa := form_good hgood
      have hf : errV (chkS s) = .nilIface := by rw [show chkS s = 0 by rw [chkS, if_neg h4, hr, hz, fa]; rfl]; rfl
      clear fa
      obtain rfl := HQ.out.trans hf
      clear hf
      go_wp2_with fail
      go_ret
      exact ⟨rfl, hbr⟩
end Go.Proofs.YtplfblccaeligaaDoor
namespace Go.Proofs.YtplfblccaeligaaDoor
open Go.RowKit Ex Mx
set_option maxRecDepth 100000
/-- What stands while all but one block stays. -/
def HeldX (w0 : World) (g : Nat) (W : World) : Prop := w0.heap.size ≤ W.heap.size ∧ ∀ b, b < w0.heap.size → b ≠ g → W.heap[b]? = w0.heap[b]?
theorem HeldX.below {w0 W W' : World} {g : Nat} (h : HeldX w0 g W) (hb : Below W.heap.size W W') : HeldX w0 g W' := ⟨Nat.le_trans h.1 hb.size, fun b h1 h2 => (hb.block b (Nat.lt_of_lt_of_le h1 h.1)).trans (h.2 b h1 h2)⟩
theorem HeldX.row {w0 W : World} {g : Nat} (h : HeldX w0 g W) (cs : Array Value) : HeldX w0 g (W.setRow g cs) := ⟨by rw [setRow_size]; exact h.1, fun b h1 h2 => (setRow_other W g b cs h2).trans (h.2 b h1 h2)⟩
theorem shv_size (x : Int × Int × Nat) : (Tryd.prog.info? 38).map (·.size) = some (shV x).size := shp_size
theorem shv_sz (x : Int × Int × Nat) : (#[.int .i64 0, .int .i64 0, .int .i64 0] : Array Value).size = (shV x).size := rfl
theorem shv_one (x : Int × Int × Nat) : (shV x).all (·.oneCell') = true := by simp [shV, Value.oneCell']
set_option linter.unusedSimpArgs false in
set_option maxHeartbeats 0 in
theorem shOf_any {z : World} (T : TabF z) (s : StT) (O : SlT) (L : Nat → SlT) (cs : Array Value) (id : Int) (w : World) (hR : ReadsS w.heap.size w cs s O L) (hn : s.objs.length ≤ 1000) (hl : ∀ z < 11, (s.lists z).length ≤ 1000) (hzw : Below z.heap.size z w) :
    Calls Tryd.prog 12 #[.agg cs, .int .i64 id] w fun en w' => en = .returned (.tuple #[.agg (shV (ofT s id)), errV (ofE s id)]) ∧ Below w.heap.size w w' := by
  have hcs := hR.size
  have hsz : (Tryd.prog.info? 29).map (·.size) = some cs.size := by rw [hcs]; exact size37
  have hchk := fun W (hb : Below w.heap.size w W) => check_code T s O L cs W W.heap.size (hR.grow hb) (Nat.le_refl _) (by omega) (fun z hz => by have := hl z hz; omega) (keepB hb hzw)
  have HR := Lib.hid hR
  obtain ⟨ans, hans⟩ : ∃ x, x = Ending.returned (.tuple #[.agg (shV (ofT s id)), errV (ofE s id)]) := ⟨_, rfl⟩
  rw [← hans]
  by_cases h0 : chkS s = 0
  case neg =>
    have HQ := Lib.hid (show ans = .returned (.tuple #[.agg #[.int .i64 0, .int .i64 0, .int .i64 0], .iface 72 (.int .i64 (chkS s))]) from by
      rw [hans]; unfold ofT ofE; rw [if_pos h0, if_neg h0, errV_err h0]; rfl)
    rw [errV_err h0] at hchk
    clear hans hR hl h0
    go_enter Tryd.func12, Tryd.ntmps12
    go_upto_region 1 with fail
    have hba : Below w.heap.size w (w.alloc (.cells cs 29)) := (Below.refl _ _).alloc (Nat.le_refl _) _
    obtain ⟨wa, hwa⟩ : ∃ x, x = w.alloc (.cells cs 29) := ⟨_, rfl⟩
    have hs0 : StAt wa w.heap.size cs := by rw [hwa]; exact StAt.new w cs
    have hwas : wa.heap.size = w.heap.size + 1 := by rw [hwa]; simp
    rw [← hwa] at hba
    have hbp : Below wa.heap.size wa (wa.alloc (.cells #[.int .i64 0, .int .i64 0, .int .i64 0] 38)) := (Below.refl _ _).alloc (Nat.le_refl _) _
    obtain ⟨w1, hw1⟩ : ∃ x, x = wa.alloc (.cells #[.int .i64 0, .int .i64 0, .int .i64 0] 38) := ⟨_, rfl⟩
    have hP0 : ShAt w1 wa.heap.size 0 0 0 := by rw [hw1]; exact heap_alloc_new _ _
    rw [← hw1] at hbp
    show Code.wp _ _ _ _ ((w.alloc (.cells cs 29)).alloc (.cells #[.int .i64 0, .int .i64 0, .int .i64 0] 38))
    rw [← hwa, ← hw1]
    have hs1 := hs0.keep hbp
    obtain ⟨gs, hgs⟩ : ∃ g, g = w.heap.size := ⟨_, rfl⟩
    obtain ⟨gr, hgr⟩ : ∃ g, g = gs + 1 := ⟨_, rfl⟩
    rw [hwas, ← hgs, ← hgr] at hP0
    rw [← hgs] at hs1
    rw [← hgs, ← hgr]
    have hb1 := keepB hbp hba
    have HG := Lib.hid (show gs < gr ∧ gr < w1.heap.size ∧ w.heap.size ≤ gr from ⟨by omega, hP0.lt, by omega⟩)
    have hck := hchk w1 hb1
    clear hwa hw1 hwas hgs hgr hs0 hba hbp hchk
    go_upto_region 2 with (refine wpList_load_row rfl 29 (.tmp 2) rfl gs rfl 29 _ (0, 0) _ hs1 Tryd.underlying29 rfl hsz ?_)
    refine hck.mono ?_
    rintro en w2 ⟨rfl, hb2⟩
    clear hck
    have hs2 := hs1.keep hb2
    have hP2 := hP0.keep hb2
    have hb3 := keepB hb2 hb1
    have HG2 := Lib.hid (show gs < gr ∧ gr < w2.heap.size ∧ w.heap.size ≤ gr from ⟨HG.out.1, hP2.lt, HG.out.2.2⟩)
    clear hs1 hP0 hb1 hb2 HG
    have hP7 : w2.heap[gr]? = some (.cells #[.int .i64 0, .int .i64 0, .int .i64 0] 38 (0, 0)) := hP2
    have hone3 : (#[.int .i64 0, .int .i64 0, .int .i64 0] : Array Value).all (·.oneCell') = true := by simp [Value.oneCell']
    go_wp2_with (refine wpList_store_row rfl 38 (.tmp 4) (.tmp 13) rfl gr #[.int .i64 0, .int .i64 0, .int .i64 0] rfl rfl 38 #[.int .i64 0, .int .i64 0, .int .i64 0] hP7 shp_size rfl hone3 ?_)
    refine bodyPost_ret (v := .tuple #[.agg #[.int .i64 0, .int .i64 0, .int .i64 0], .iface 72 (.int .i64 (chkS s))]) ?_ rfl ?_
    · exact results_cell_tmp (ty := 38) (p := 4) (q := 5) (by kernel_rfl) _ _ gr 38 _ (0, 0) _ rfl (setRow_heap _ _ _ _ _ _ hP7) Tryd.underlying38 rfl shp_size
    · exact ⟨by rw [HQ.out], below_setRow hb3 _ _ HG2.out.2.2⟩
  rw [h0, errV_nil] at hchk
  have hbt := fun W (hb : Below w.heap.size w W) => shBeast_any s O L cs id W (hR.grow hb)
  have HL := Lib.hid (show (s.lists 8).length ≤ 1000000 by have := hl 8 (by omega); omega)
  have H0 := Lib.hid h0
  clear hR hl
  go_enter Tryd.func12, Tryd.ntmps12
  go_upto_region 1 with fail
  have hba : Below w.heap.size w (w.alloc (.cells cs 29)) := (Below.refl _ _).alloc (Nat.le_refl _) _
  obtain ⟨wa, hwa⟩ : ∃ x, x = w.alloc (.cells cs 29) := ⟨_, rfl⟩
  have hs0 : StAt wa w.heap.size cs := by rw [hwa]; exact StAt.new w cs
  have hwas : wa.heap.size = w.heap.size + 1 := by rw [hwa]; simp
  rw [← hwa] at hba
  have hbp : Below wa.heap.size wa (wa.alloc (.cells #[.int .i64 0, .int .i64 0, .int .i64 0] 38)) := (Below.refl _ _).alloc (Nat.le_refl _) _
  obtain ⟨w1, hw1⟩ : ∃ x, x = wa.alloc (.cells #[.int .i64 0, .int .i64 0, .int .i64 0] 38) := ⟨_, rfl⟩
  have hP0 : ShAt w1 wa.heap.size 0 0 0 := by rw [hw1]; exact heap_alloc_new _ _
  rw [← hw1] at hbp
  show Code.wp _ _ _ _ ((w.alloc (.cells cs 29)).alloc (.cells #[.int .i64 0, .int .i64 0, .int .i64 0] 38))
  rw [← hwa, ← hw1]
  have hs1 := hs0.keep hbp
  obtain ⟨gs, hgs⟩ : ∃ g, g = w.heap.size := ⟨_, rfl⟩
  obtain ⟨gr, hgr⟩ : ∃ g, g = gs + 1 := ⟨_, rfl⟩
  rw [hwas, ← hgs, ← hgr] at hP0
  rw [← hgs] at hs1
  rw [← hgs, ← hgr]
  have hb1 := keepB hbp hba
  have HG := Lib.hid (show gs < gr ∧ gr < w1.heap.size ∧ w.heap.size ≤ gr from ⟨by omega, hP0.lt, by omega⟩)
  have hck := hchk w1 hb1
  clear hwa hw1 hwas hgs hgr hs0 hba hbp hchk
  go_upto_region 2 with (refine wpList_load_row rfl 29 (.tmp 2) rfl gs rfl 29 _ (0, 0) _ hs1 Tryd.underlying29 rfl hsz ?_)
  refine hck.mono ?_
  rintro en w2 ⟨rfl, hb2⟩
  clear hck
  have hs2 := hs1.keep hb2
  have hP2 := hP0.keep hb2
  have hb3 := keepB hb2 hb1
  have HG2 := Lib.hid (show gs < gr ∧ gr < w2.heap.size ∧ w.heap.size ≤ gr from ⟨HG.out.1, hP2.lt, HG.out.2.2⟩)
  clear hs1 hP0 hb1 hb2 HG
  have hbs := hbt w2 hb3
  clear hbt
  go_upto_region 4 with fail
  obtain ⟨bb, hbb⟩ : ∃ b, b = isB s id := ⟨_, rfl⟩
  unfold BsP at hbs
  rw [← hbb] at hbs
  have HBb := Lib.hid hbb
  clear hbb
  go_upto_region 5 with (refine wpList_load_row rfl 29 (.tmp 2) rfl gs rfl 29 _ (0, 0) _ hs2 Tryd.underlying29 rfl hsz ?_)
  refine hbs.mono ?_
  rintro en w4 ⟨ys, c, rfl, hq, hcB, hb4⟩
  have hnew : (w4.alloc (.cells zeroD 55)).heap[w4.heap.size]? = some (.cells zeroD 55 (0, 0)) := heap_alloc_new _ _
  have hys13 := cq_size hq
  have hone := cq_one hq
  have hinf := cq_info hq
  have hz13 : zeroD.size = ys.size := by rw [hys13]; rfl
  clear hbs
  go_upto_region 5 with (refine wpList_store_row rfl 55 (.tmp 7) (.tmp 19) rfl w4.heap.size _ rfl rfl 55 zeroD hnew hinf hz13 hone ?_)
  have hc5 : CdAt ((w4.alloc (.cells zeroD 55)).setRow w4.heap.size ys) w4.heap.size ys := setRow_heap _ _ _ _ _ _ hnew
  have hb5 : Below w4.heap.size w4 ((w4.alloc (.cells zeroD 55)).setRow w4.heap.size ys) := below_setRow ((Below.refl _ _).alloc (Nat.le_refl _) _) _ _ (Nat.le_refl _)
  obtain ⟨w5, hw5⟩ : ∃ w5, w5 = (w4.alloc (.cells zeroD 55)).setRow w4.heap.size ys := ⟨_, rfl⟩
  rw [← hw5] at hc5 hb5
  show Code.wp _ _ _ _ ((w4.alloc (.cells zeroD 55)).setRow w4.heap.size ys)
  rw [← hw5]
  obtain ⟨gb, hgb⟩ : ∃ g, g = w4.heap.size := ⟨_, rfl⟩
  have hgrb : gr < gb := by rw [hgb]; exact Nat.lt_of_lt_of_le HG2.out.2.1 hb4.size
  rw [← hgb] at hc5
  rw [← hgb]
  have hs5 := (hs2.keep hb4).keep hb5
  have hP5 := (hP2.keep hb4).keep hb5
  have hbw5 := keepB hb5 (keepB hb4 hb3)
  clear hw5 hgb hnew hs2 hP2 hz13 hb5 hb4 hb3
  cases bb with
  | false =>
    have HQ := Lib.hid (show ans = .returned (.tuple #[.agg #[.int .i64 0, .int .i64 0, .int .i64 0], .iface 72 (.int .i64 4)]) from by
      have hE : ofE s id = 4 := by unfold ofE; rw [if_neg (by rw [H0.out]; simp), ← HBb.out]; rfl
      rw [hans]; unfold ofT; rw [hE, if_neg (by decide), errV_err (by decide)]; rfl)
    clear hans hq hcB hys13 hone hinf hc5 hs5
    have hP7 : w5.heap[gr]? = some (.cells #[.int .i64 0, .int .i64 0, .int .i64 0] 38 (0, 0)) := hP5
    have hone3 : (#[.int .i64 0, .int .i64 0, .int .i64 0] : Array Value).all (·.oneCell') = true := by simp [Value.oneCell']
    go_wp2_with (refine wpList_store_row rfl 38 (.tmp 4) (.tmp 23) rfl gr #[.int .i64 0, .int .i64 0, .int .i64 0] rfl rfl 38 #[.int .i64 0, .int .i64 0, .int .i64 0] hP7 shp_size rfl hone3 ?_)
    refine bodyPost_ret (v := .tuple #[.agg #[.int .i64 0, .int .i64 0, .int .i64 0], .iface 72 (.int .i64 4)]) ?_ rfl ?_
    · exact results_cell_tmp (ty := 38) (p := 4) (q := 5) (by kernel_rfl) _ _ gr 38 _ (0, 0) _ rfl (setRow_heap _ _ _ _ _ _ hP7) Tryd.underlying38 rfl shp_size
    · exact ⟨by rw [HQ.out], below_setRow hbw5 _ _ HG2.out.2.2⟩
  | true =>
    have hcd := hcB rfl
    clear hcB
    go_upto_region 7 with fail
    have hii : InS s id := by
      have h := HBb.out.symm
      unfold isB at h
      simp only [Bool.and_eq_true, decide_eq_true_eq] at h
      exact h.1.1
    obtain ⟨k, o, rfl, hk, ho, hos⟩ := hii.ob
    obtain ⟨b, off, hA, hb, hrg⟩ := HR.out.o k o ho
    have c0 : cs[0]? = some (.slice (some ⟨b, off, none⟩) s.objs.length O.c) := by rw [HR.out.cs, stC_objs]; unfold SlT.v; rw [HR.out.on, hA]
    have hin : ∀ id ∈ s.lists 8, InS s id := fun i hi => right_in H0.out (by omega) hi
    have hup := fun W (hW : Below w.heap.size w W) => upon_any s O L cs (k : Int) W (HR.out.grow hW) HL.out hin hii
    have hnum := right_nums H0.out ho
    obtain ⟨_, _, _, _, _, _, Ac, cc, hye, _⟩ := hq
    obtain ⟨kc, hkc⟩ : ∃ x, x = c.abs.length := ⟨_, rfl⟩
    rw [← hkc] at hye
    have HYE := Lib.hid hye
    clear hye hkc
    have hone1 : ∀ x ∈ statS s, OneOk x.2 := fun x hx => (stat_one hx).2
    have hul := upon_len s (k : Int) (statS s) hone1
    have hsl := statL_len s (s.lists 8)
    have hl8 := HL.out
    have hsl2 : (statS s).length ≤ 9 * (s.lists 8).length := hsl
    have hum : ∀ e ∈ uponL s (k : Int) (statS s), BdE e := fun e he => upon_mem he
    have hpt := cdS_pt s (k : Int)
    have hsa := cdS_says s (k : Int)
    rw [← hcd] at hpt hsa
    have hofu := ofU_is s (k : Int)
    rw [← hcd, hos] at hofu
    obtain ⟨l, hlu⟩ : ∃ l, l = uponL s (k : Int) (statS s) := ⟨_, rfl⟩
    rw [← hlu] at hul hum hofu
    have hlen : l.length ≤ 9000000 := by omega
    unfold UpP at hup
    rw [← hlu] at hup
    have HQ := Lib.hid (show ans = .returned (.tuple #[.agg (shV (ofU c o l)), .nilIface]) from by
      have hE : ofE s (k : Int) = 0 := by unfold ofE; rw [if_neg (by rw [H0.out]; simp), ← HBb.out]; rfl
      rw [hans, hofu]; unfold ofT; rw [hE, if_pos rfl, errV_nil])
    have hbd1 : Below w5.heap.size w5 w5.drew := (Below.refl _ _).drew
    have hf1 : ∀ W, HeldX w5 gr W → CdAt W gb ys := fun W hW => (hW.2 gb hc5.lt (by omega)).trans hc5
    have hgs5 : gs < w5.heap.size := (Array.getElem?_eq_some_iff.1 hs5).1
    have hf2 : ∀ W, HeldX w5 gr W → StAt W gs cs := fun W hW => (hW.2 gs hgs5 (by have := HG2.out.1; omega)).trans hs5
    have hbsz : b < w5.heap.size := Nat.lt_of_lt_of_le hb hbw5.size
    have hrg5 := range_below hbw5 hb hrg
    have hf3 : ∀ W, HeldX w5 gr W → W.rangeAt b (off + k * 18) (arr .i64 18 o).toList := fun W hW j v hv => by
      rw [World.cell?_of_block (hW.2 b hbsz (by have := HG2.out.2.2; omega))]; exact hrg5 j v hv
    have k0 : ∀ W, HeldX w5 gr W → W.cell? ⟨gs, 0, none⟩ = some (.slice (some ⟨b, off, none⟩) s.objs.length O.c) := fun W hW => by rw [(hf2 W hW).cell]; exact c0
    have p0 : (0 : Int) ≤ (k : Int) := by omega
    have p1 : (k : Int) < (s.objs.length : Int) := by omega
    have hbw6 := keepB hbd1 hbw5
    have hP6 := hP5.keep hbd1
    clear hans hul hl8 hsl2 hsl ho hin hrg hcd hlu hos hii hA hc5 hs5 hone hinf hn
    refine wp_region_held_drew (S := HeldX w5 gr) (by kernel_rfl) ⟨hbd1.size, fun b h1 _ => hbd1.block b h1⟩ (fun hHeld => ?_)
    generalize w5.drew = W0 at hHeld hbw6 hP6 ⊢
    refine wpAnyH_take (i := 0) (v := .agg ys) rfl (by kernel_rfl) (by kernel_rfl) (by kernel_rfl) (fun _ _ _ h => h) (yields_cd (by rfl) (.tmp 7) rfl gb rfl ys hys13 hf1) hHeld ?_
    simp only [Act.put, List.getElem_toArray, List.getElem_cons_zero, List.getElem_cons_succ, List.setIfInBounds_toArray, List.set_cons_zero, List.set_cons_succ]
    refine wpAnyH_take (i := 1) (v := ?_) rfl (by kernel_rfl) (by kernel_rfl) (by kernel_rfl) (fun _ _ _ h => h) (Or.inl ⟨by rfl, ?_⟩) hHeld ?_
    rotate_left
    · (intro w hSw; go_simp; (try with_reducible rfl))
    simp only [Act.put, List.getElem_toArray, List.getElem_cons_zero, List.getElem_cons_succ, List.setIfInBounds_toArray, List.set_cons_zero, List.set_cons_succ]
    refine wpAnyH_take (i := 2) (v := ?_) rfl (by kernel_rfl) (by kernel_rfl) (by kernel_rfl) (fun _ _ _ h => h) (Or.inl ⟨by rfl, ?_⟩) hHeld ?_
    rotate_left
    · (intro w hSw; go_simp; (try with_reducible rfl))
    simp only [Act.put, List.getElem_toArray, List.getElem_cons_zero, List.getElem_cons_succ, List.setIfInBounds_toArray, List.set_cons_zero, List.set_cons_succ]
    refine wpAnyH_take (i := 3) (v := ?_) rfl (by kernel_rfl) (by kernel_rfl) (by kernel_rfl) (fun _ _ _ h => h) (Or.inl ⟨by rfl, ?_⟩) hHeld ?_
    rotate_left
    · (intro w hSw; go_simp; (try with_reducible rfl))
    simp only [Act.put, List.getElem_toArray, List.getElem_cons_zero, List.getElem_cons_succ, List.setIfInBounds_toArray, List.set_cons_zero, List.set_cons_succ]
    refine wpAnyH_take (i := 4) (v := ?_) rfl (by kernel_rfl) (by kernel_rfl) (by kernel_rfl) (fun _ _ _ h => h) (Or.inl ⟨by rfl, ?_⟩) hHeld ?_
    rotate_left
    · (intro w hSw; go_simp; (try with_reducible rfl))
    simp only [Act.put, List.getElem_toArray, List.getElem_cons_zero, List.getElem_cons_succ, List.setIfInBounds_toArray, List.set_cons_zero, List.set_cons_succ]
    refine wpAnyH_take (i := 5) (v := .agg (arr .i64 18 o)) rfl (by kernel_rfl) (by kernel_rfl) (by kernel_rfl) (fun _ _ _ h => h) (yields_obj (by rfl) (.tmp 29) rfl b (off + k * 18) rfl o hf3) hHeld ?_
    simp only [Act.put, List.getElem_toArray, List.getElem_cons_zero, List.getElem_cons_succ, List.setIfInBounds_toArray, List.set_cons_zero, List.set_cons_succ]
    refine wpAnyH_take (i := 6) (v := .agg cs) rfl (by kernel_rfl) (by kernel_rfl) (by kernel_rfl) (fun _ _ _ h => h) (yields_st (by rfl) (.tmp 2) rfl gs rfl cs hcs hf2) hHeld ?_
    simp only [Act.put, List.getElem_toArray, List.getElem_cons_zero, List.getElem_cons_succ, List.setIfInBounds_toArray, List.set_cons_zero, List.set_cons_succ]
    refine wpAnyH_take (i := 7) (v := ?_) rfl (by kernel_rfl) (by kernel_rfl) (by kernel_rfl) (fun _ _ _ h => h) (Or.inl ⟨by rfl, ?_⟩) hHeld ?_
    rotate_left
    · (intro w hSw; go_simp; (try with_reducible rfl))
    simp only [Act.put, List.getElem_toArray, List.getElem_cons_zero, List.getElem_cons_succ, List.setIfInBounds_toArray, List.set_cons_zero, List.set_cons_succ]
    refine wpAnyH_ready (rs := [8]) (by kernel_rfl) (by simp) ?_
    refine AllReadyH.cons rfl (fun K hK => ?_) AllReadyH.nil
    simp only [List.getElem_toArray, List.getElem_cons_zero, List.getElem_cons_succ]
    go_simp
    refine (hup _ hbw6).mono ?_
    rintro en w6 ⟨A, n, ca, rfl, hE⟩
    have hS6 := hHeld.below hE.b
    refine hK.out _ _ hS6 (fun _ => ?_)
    clear hK K hHeld
    try simp only [Act.put, List.setIfInBounds_toArray, List.set_cons_zero, List.set_cons_succ]
    have hHeld := hS6
    have hP7 := hP6.keep hE.b
    have hbw7 := keepB hE.b hbw6
    have hsh := shaped_any c Ac kc cc o l A n ca w6 hE.n_ (by rw [hE.n_]; exact hlen) hE.rdU hum hpt hsa hnum.2.2
    rw [← HYE.out] at hsh
    refine wpAnyH_ready (rs := [9]) (by kernel_rfl) (by simp) ?_
    refine AllReadyH.cons rfl (fun K hK => ?_) AllReadyH.nil
    simp only [List.getElem_toArray, List.getElem_cons_zero, List.getElem_cons_succ]
    go_simp
    refine hsh.mono ?_
    rintro en w7 ⟨rfl, hb7⟩
    have hS7 := hS6.below hb7
    refine hK.out _ _ hS7 (fun _ => ?_)
    clear hK K hHeld
    try simp only [Act.put, List.setIfInBounds_toArray, List.set_cons_zero, List.set_cons_succ]
    have hHeld := hS7
    have hP8 : w7.heap[gr]? = some (.cells #[.int .i64 0, .int .i64 0, .int .i64 0] 38 (0, 0)) := hP7.keep hb7
    have hbw8 := keepB hb7 hbw7
    obtain ⟨sv, hsv⟩ : ∃ x, x = shV (ofU c o l) := ⟨_, rfl⟩
    have hsv3 : (Tryd.prog.info? 38).map (·.size) = some sv.size := by rw [hsv]; exact shv_size _
    have hsv1 : sv.all (·.oneCell') = true := by rw [hsv]; exact shv_one _
    have hsv0 : (#[.int .i64 0, .int .i64 0, .int .i64 0] : Array Value).size = sv.size := by rw [hsv]; exact shv_sz _
    rw [← hsv] at HQ ⊢
    refine wpAnyH_ready (rs := [10]) (by kernel_rfl) (by simp) ?_
    refine AllReadyH.cons rfl (fun K hK => ?_) AllReadyH.nil
    simp only [List.getElem_toArray, List.getElem_cons_zero, List.getElem_cons_succ]
    refine wp_store_row 38 (.tmp 4) (.tmp 34) rfl gr _ rfl rfl 38 _ hP8 hsv3 hsv0 hsv1 ?_
    have hS9 := hS7.row sv
    refine hK.out _ _ hS9 (fun _ => ?_)
    clear hK K hHeld
    try simp only [Act.put, List.setIfInBounds_toArray, List.set_cons_zero, List.set_cons_succ]
    have hHeld := hS9
    refine wpAnyH_take (i := 11) (v := ?_) rfl (by kernel_rfl) (by kernel_rfl) (by kernel_rfl) (fun _ _ _ h => h) (Or.inl ⟨by rfl, ?_⟩) hHeld ?_
    rotate_left
    · (intro w hSw; go_simp; (try with_reducible rfl))
    simp only [Act.put, List.getElem_toArray, List.getElem_cons_zero, List.getElem_cons_succ, List.setIfInBounds_toArray, List.set_cons_zero, List.set_cons_succ]
    refine wpAnyH_done (by kernel_rfl) ?_ _
    go_wp2_with fail
    refine bodyPost_ret (v := .tuple #[.agg sv, .nilIface]) ?_ rfl ?_
    · exact results_cell_tmp (ty := 38) (p := 4) (q := 5) (by kernel_rfl) _ _ gr 38 _ (0, 0) _ rfl (setRow_heap _ _ _ _ _ _ hP8) Tryd.underlying38 rfl hsv3
    · exact ⟨by rw [HQ.out], below_setRow hbw8 _ _ HG2.out.2.2⟩
end Go.Proofs.YtplfblccaeligaaDoor
namespace Go.Proofs.YtplfblccaeligaaDoor
open Go.RowKit Ex Mx
set_option maxRecDepth 100000
set_option linter.unusedSimpArgs false in
set_option maxHeartbeats 0 in
theorem shIs_any {z : World} (T : TabF z) (s : StT) (O : SlT) (L : Nat → SlT) (cs : Array Value) (id : Int) (w : World) (hR : ReadsS w.heap.size w cs s O L) (hn : s.objs.length ≤ 1000) (hl : ∀ z < 11, (s.lists z).length ≤ 1000) (hzw : Below z.heap.size z w) :
    Calls Tryd.prog 15 #[.agg cs, .int .i64 id] w fun en w' => en = .returned (.bool (isT s id)) ∧ Below w.heap.size w w' := by
  have hcs := hR.size
  have hsz : (Tryd.prog.info? 29).map (·.size) = some cs.size := by rw [hcs]; exact size37
  have hchk := fun W (hb : Below w.heap.size w W) => check_code T s O L cs W W.heap.size (hR.grow hb) (Nat.le_refl _) (by omega) (fun z hz => by have := hl z hz; omega) (keepB hb hzw)
  have hbt := fun W (hb : Below w.heap.size w W) => shBeast_any s O L cs id W (hR.grow hb)
  by_cases h0 : chkS s = 0
  case neg =>
    have HQ := Lib.hid (show isT s id = false from by unfold isT; simp [h0])
    rw [errV_err h0] at hchk
    clear hbt hR hl h0 hn
    go_enter Tryd.func15, Tryd.ntmps15
    go_upto_region 1 with fail
    have hba : Below w.heap.size w (w.alloc (.cells cs 29)) := (Below.refl _ _).alloc (Nat.le_refl _) _
    obtain ⟨w1, hw1⟩ : ∃ x, x = w.alloc (.cells cs 29) := ⟨_, rfl⟩
    have hs1 : StAt w1 w.heap.size cs := by rw [hw1]; exact StAt.new w cs
    rw [← hw1] at hba
    rw [← hw1]
    obtain ⟨gs, hgs⟩ : ∃ g, g = w.heap.size := ⟨_, rfl⟩
    rw [← hgs] at hs1
    rw [← hgs]
    clear hw1 hgs
    have hck := hchk w1 hba
    clear hchk
    go_wp2_with (refine wpList_load_row rfl 29 (.tmp 2) rfl gs rfl 29 _ (0, 0) _ hs1 Tryd.underlying29 rfl hsz ?_)
    refine hck.mono ?_
    rintro en w2 ⟨rfl, hb2⟩
    clear hck
    go_wp2_with fail
    go_ret
    exact ⟨by rw [HQ.out] <;> rfl, keepB hb2 hba⟩
  rw [h0, errV_nil] at hchk
  obtain ⟨bb, hbb⟩ : ∃ b, b = isB s id := ⟨_, rfl⟩
  unfold BsP at hbt
  rw [← hbb] at hbt
  have HQ := Lib.hid (show isT s id = bb from by unfold isT; rw [hbb]; simp [h0])
  clear hbb hR hl h0 hn
  go_enter Tryd.func15, Tryd.ntmps15
  go_upto_region 1 with fail
  have hba : Below w.heap.size w (w.alloc (.cells cs 29)) := (Below.refl _ _).alloc (Nat.le_refl _) _
  obtain ⟨w1, hw1⟩ : ∃ x, x = w.alloc (.cells cs 29) := ⟨_, rfl⟩
  have hs1 : StAt w1 w.heap.size cs := by rw [hw1]; exact StAt.new w cs
  rw [← hw1] at hba
  rw [← hw1]
  obtain ⟨gs, hgs⟩ : ∃ g, g = w.heap.size := ⟨_, rfl⟩
  rw [← hgs] at hs1
  rw [← hgs]
  clear hw1 hgs
  have hck := hchk w1 hba
  clear hchk
  go_wp2_with (refine wpList_load_row rfl 29 (.tmp 2) rfl gs rfl 29 _ (0, 0) _ hs1 Tryd.underlying29 rfl hsz ?_)
  refine hck.mono ?_
  rintro en w2 ⟨rfl, hb2⟩
  have hs2 := hs1.keep hb2
  have hb3 := keepB hb2 hba
  have hbs := hbt w2 hb3
  clear hck hbt hs1
  go_wp2_with (refine wpList_load_row rfl 29 (.tmp 2) rfl gs rfl 29 _ (0, 0) _ hs2 Tryd.underlying29 rfl hsz ?_)
  refine hbs.mono ?_
  rintro en w4 ⟨ys, c, rfl, hq, _, hb4⟩
  have hnew : (w4.alloc (.cells zeroD 55)).heap[w4.heap.size]? = some (.cells zeroD 55 (0, 0)) := heap_alloc_new _ _
  have hys13 := cq_size hq
  have hone := cq_one hq
  have hinf := cq_info hq
  have hz13 : zeroD.size = ys.size := by rw [hys13]; rfl
  have hb5 : Below w4.heap.size w4 ((w4.alloc (.cells zeroD 55)).setRow w4.heap.size ys) := below_setRow ((Below.refl _ _).alloc (Nat.le_refl _) _) _ _ (Nat.le_refl _)
  clear hbs hq
  go_wp2_with (refine wpList_store_row rfl 55 (.tmp 5) (.tmp 14) rfl w4.heap.size _ rfl rfl 55 zeroD hnew hinf hz13 hone ?_)
  go_ret
  exact ⟨by rw [HQ.out] <;> rfl, keepB hb5 (keepB hb4 hb3)⟩
set_option linter.unusedSimpArgs false in
set_option maxHeartbeats 0 in
theorem shStatics_any {z : World} (T : TabF z) (s : StT) (O : SlT) (L : Nat → SlT) (cs : Array Value) (w : World) (hR : ReadsS w.heap.size w cs s O L) (hn : s.objs.length ≤ 1000) (hl : ∀ z < 11, (s.lists z).length ≤ 1000) (hzw : Below z.heap.size z w) :
    Calls Tryd.prog 18 #[.agg cs] w fun en w' => en = .returned (.int .i64 (statT s : Nat)) ∧ Below w.heap.size w w' := by
  have hcs := hR.size
  have hsz : (Tryd.prog.info? 29).map (·.size) = some cs.size := by rw [hcs]; exact size37
  have hchk := fun W (hb : Below w.heap.size w W) => check_code T s O L cs W W.heap.size (hR.grow hb) (Nat.le_refl _) (by omega) (fun z hz => by have := hl z hz; omega) (keepB hb hzw)
  by_cases h0 : chkS s = 0
  case neg =>
    have HQ := Lib.hid (show statT s = 0 from by unfold statT; rw [if_neg h0])
    rw [errV_err h0] at hchk
    clear hR hl h0 hn
    go_enter Tryd.func18, Tryd.ntmps18
    go_upto_region 1 with fail
    have hba : Below w.heap.size w (w.alloc (.cells cs 29)) := (Below.refl _ _).alloc (Nat.le_refl _) _
    obtain ⟨w1, hw1⟩ : ∃ x, x = w.alloc (.cells cs 29) := ⟨_, rfl⟩
    have hs1 : StAt w1 w.heap.size cs := by rw [hw1]; exact StAt.new w cs
    rw [← hw1] at hba
    rw [← hw1]
    obtain ⟨gs, hgs⟩ : ∃ g, g = w.heap.size := ⟨_, rfl⟩
    rw [← hgs] at hs1
    rw [← hgs]
    clear hw1 hgs
    have hck := hchk w1 hba
    clear hchk
    go_wp2_with (refine wpList_load_row rfl 29 (.tmp 1) rfl gs rfl 29 _ (0, 0) _ hs1 Tryd.underlying29 rfl hsz ?_)
    refine hck.mono ?_
    rintro en w2 ⟨rfl, hb2⟩
    clear hck
    go_wp2_with fail
    go_ret
    exact ⟨by rw [HQ.out] <;> rfl, keepB hb2 hba⟩
  have hst := fun W (hb : Below w.heap.size w W) => staticsC_any s O L cs W (hR.grow hb) (by have := hl 8 (by omega); omega) (fun i hi => right_in h0 (by omega) hi)
  rw [h0, errV_nil] at hchk
  have HQ := Lib.hid (show statT s = (statS s).length from by unfold statT; rw [if_pos h0])
  clear hR hl h0 hn
  go_enter Tryd.func18, Tryd.ntmps18
  go_upto_region 1 with fail
  have hba : Below w.heap.size w (w.alloc (.cells cs 29)) := (Below.refl _ _).alloc (Nat.le_refl _) _
  obtain ⟨w1, hw1⟩ : ∃ x, x = w.alloc (.cells cs 29) := ⟨_, rfl⟩
  have hs1 : StAt w1 w.heap.size cs := by rw [hw1]; exact StAt.new w cs
  rw [← hw1] at hba
  rw [← hw1]
  obtain ⟨gs, hgs⟩ : ∃ g, g = w.heap.size := ⟨_, rfl⟩
  rw [← hgs] at hs1
  rw [← hgs]
  clear hw1 hgs
  have hck := hchk w1 hba
  clear hchk
  go_wp2_with (refine wpList_load_row rfl 29 (.tmp 1) rfl gs rfl 29 _ (0, 0) _ hs1 Tryd.underlying29 rfl hsz ?_)
  refine hck.mono ?_
  rintro en w2 ⟨rfl, hb2⟩
  have hs2 := hs1.keep hb2
  have hb3 := keepB hb2 hba
  have hss := hst w2 hb3
  clear hck hst hs1
  go_wp2_with (refine wpList_load_row rfl 29 (.tmp 1) rfl gs rfl 29 _ (0, 0) _ hs2 Tryd.underlying29 rfl hsz ?_)
  refine hss.mono ?_
  rintro en w4 ⟨A, n, c, rfl, hnc, hS⟩
  have hb4 := hS.b
  have hnn := hS.n_
  clear hss hS
  go_wp2_with fail
  go_ret
  exact ⟨by rw [HQ.out] <;> rfl, keepB hb4 hb3⟩
set_option linter.unusedSimpArgs false in
set_option maxHeartbeats 0 in
theorem shLeft_any {z : World} (T : TabF z) (s : StT) (O : SlT) (L : Nat → SlT) (cs : Array Value) (id : Int) (w : World) (hR : ReadsS w.heap.size w cs s O L) (hn : s.objs.length ≤ 1000) (hl : ∀ z < 11, (s.lists z).length ≤ 1000) (hzw : Below z.heap.size z w) :
    Calls Tryd.prog 13 #[.agg cs, .int .i64 id] w fun en w' => en = .returned (.tuple #[.int .i64 (leftT s id), errV (ofE s id)]) ∧ Below w.heap.size w w' := by
  have hcs := hR.size
  have hsz : (Tryd.prog.info? 29).map (·.size) = some cs.size := by rw [hcs]; exact size37
  have hof := fun W (hb : Below w.heap.size w W) => shOf_any T s O L cs id W (hR.grow hb) hn hl (keepB hb hzw)
  obtain ⟨⟨p, q, u⟩, hx⟩ : ∃ x, x = ofT s id := ⟨_, rfl⟩
  rw [← hx] at hof
  simp only [shV] at hof
  by_cases h0 : ofE s id = 0
  case neg =>
    have HQ := Lib.hid (show leftT s id = 0 from by unfold leftT; rw [if_neg h0])
    rw [errV_err h0] at hof ⊢
    clear hR hl h0 hn hx
    go_enter Tryd.func13, Tryd.ntmps13
    go_upto_region 1 with fail
    have hba : Below w.heap.size w (w.alloc (.cells cs 29)) := (Below.refl _ _).alloc (Nat.le_refl _) _
    obtain ⟨w1, hw1⟩ : ∃ x, x = w.alloc (.cells cs 29) := ⟨_, rfl⟩
    have hs1 : StAt w1 w.heap.size cs := by rw [hw1]; exact StAt.new w cs
    rw [← hw1] at hba
    rw [← hw1]
    obtain ⟨gs, hgs⟩ : ∃ g, g = w.heap.size := ⟨_, rfl⟩
    rw [← hgs] at hs1
    rw [← hgs]
    clear hw1 hgs
    have ho1 := hof w1 hba
    clear hof
    go_wp2_with (refine wpList_load_row rfl 29 (.tmp 2) rfl gs rfl 29 _ (0, 0) _ hs1 Tryd.underlying29 rfl hsz ?_)
    refine ho1.mono ?_
    rintro en w2 ⟨rfl, hb2⟩
    have hb3 := ((Below.refl w2.heap.size w2).alloc (Nat.le_refl _) (.cells #[.int .i64 p, .int .i64 q, .int .i64 (u : Int)] 38))
    clear ho1
    go_wp2_with fail
    go_ret2
    exact ⟨by rw [HQ.out] <;> rfl, keepB hb3 (keepB hb2 hba)⟩
  have hT := ofE_0.1 h0
  have hck : chkS s = 0 ∧ isB s id = true := by
    unfold isT at hT
    simpa using hT
  have hii := isB_in' hck.2
  have hnum := right_objS hck.1 hii
  have hbd := ofS_bd hck.1 hii (by have := hl 8 (by omega); omega)
  have hxx : ofT s id = ofS s id := by unfold ofT; rw [if_pos h0]
  rw [← hxx, ← hx] at hbd
  obtain ⟨k, o, rfl, hk, ho, hos⟩ := hii.ob
  rw [hos] at hnum
  obtain ⟨o6, ho6⟩ : ∃ x, x = o 6 := ⟨_, rfl⟩
  rw [← ho6] at hnum
  obtain ⟨v, hv⟩ : ∃ x, x = q - o6 := ⟨_, rfl⟩
  have ev : IntKind.i64.wrap (q - o6) = v := by rw [hv]; exact wrap_in (by have h1 := hbd.2.2.1; have h2 := hbd.2.2.2.1; have h3 := hnum.1; have h4 := hnum.2.1; clear hbd hnum; simp only at h1 h2; omega)
  have HQ := Lib.hid (show leftT s (k : Int) = v from by
    unfold leftT; rw [if_pos h0, ← hxx, ← hx, hos, hv, ho6])
  rw [h0, errV_nil] at hof ⊢
  obtain ⟨b, off, hA, hb, hcell⟩ := obj_num hR.o ho
  have hc6 := hcell 6 (by omega)
  rw [← ho6] at hc6
  have c0 : cs[0]? = some (.slice (some ⟨b, off, none⟩) s.objs.length O.c) := by rw [hR.cs, stC_objs]; unfold SlT.v; rw [hR.on, hA]
  have p0 : (0 : Int) ≤ (k : Int) := by omega
  have p1 : (k : Int) < (s.objs.length : Int) := by omega
  clear hR hl h0 hn hx hT hck hii hnum hbd hxx ho hos ho6 hv hA hcell
  go_enter Tryd.func13, Tryd.ntmps13
  go_upto_region 1 with fail
  have hba : Below w.heap.size w (w.alloc (.cells cs 29)) := (Below.refl _ _).alloc (Nat.le_refl _) _
  obtain ⟨w1, hw1⟩ : ∃ x, x = w.alloc (.cells cs 29) := ⟨_, rfl⟩
  have hs1 : StAt w1 w.heap.size cs := by rw [hw1]; exact StAt.new w cs
  rw [← hw1] at hba
  rw [← hw1]
  obtain ⟨gs, hgs⟩ : ∃ g, g = w.heap.size := ⟨_, rfl⟩
  rw [← hgs] at hs1
  rw [← hgs]
  clear hw1 hgs
  have ho1 := hof w1 hba
  clear hof
  go_upto_region 4 with (refine wpList_load_row rfl 29 (.tmp 2) rfl gs rfl 29 _ (0, 0) _ hs1 Tryd.underlying29 rfl hsz ?_)
  refine ho1.mono ?_
  rintro en w2 ⟨rfl, hb2⟩
  have hb3 := ((Below.refl w2.heap.size w2).alloc (Nat.le_refl _) (.cells #[.int .i64 p, .int .i64 q, .int .i64 (u : Int)] 38))
  clear ho1
  go_upto_region 4 with fail
  obtain ⟨w3, hw3⟩ : ∃ x, x = w2.alloc (.cells #[.int .i64 p, .int .i64 q, .int .i64 (u : Int)] 38) := ⟨_, rfl⟩
  have hS3 : ShAt w3 w2.heap.size p q (u : Int) := by rw [hw3]; exact heap_alloc_new _ _
  rw [← hw3] at hb3
  rw [← hw3]
  obtain ⟨g6, hg6⟩ : ∃ g, g = w2.heap.size := ⟨_, rfl⟩
  rw [← hg6] at hS3
  rw [← hg6]
  have hs3 := (hs1.keep hb2).keep hb3
  have hbw3 := keepB hb3 (keepB hb2 hba)
  have k0 : ∀ W, Below w3.heap.size w3 W → W.cell? ⟨gs, 0, none⟩ = some (.slice (some ⟨b, off, none⟩) s.objs.length O.c) := fun W hW => by rw [(hs3.keep hW).cell]; exact c0
  have k1 : ∀ W, Below w3.heap.size w3 W → W.cell? ⟨b, off + k * 18 + 6, none⟩ = some (.int .i64 o6) := fun W hW => ((keepB hW hbw3).cell (show (⟨b, off + k * 18 + 6, none⟩ : Addr).block < w.heap.size from hb)).trans hc6
  have k2 : ∀ W, Below w3.heap.size w3 W → W.cell? ⟨g6, 1, none⟩ = some (.int .i64 q) := fun W hW => (hS3.keep hW).c1
  have HB := Lib.hid hbw3
  clear hw3 hg6 hS3 hs3 hbw3 hb3 hb2 hs1 hba hc6 c0 hb
  refine region_below (by kernel_rfl) (fun hHeld => ?_)
  refine wpAnyH_take (i := 0) (v := ?_) rfl (by kernel_rfl) (by kernel_rfl) (by kernel_rfl) (fun _ _ _ h => h) (Or.inl ⟨by rfl, ?_⟩) hHeld ?_
  rotate_left
  · (intro w hSw; go_simp; (try with_reducible rfl))
  simp only [Act.put, List.getElem_toArray, List.getElem_cons_zero, List.getElem_cons_succ, List.setIfInBounds_toArray, List.set_cons_zero, List.set_cons_succ]
  refine wpAnyH_take (i := 1) (v := ?_) rfl (by kernel_rfl) (by kernel_rfl) (by kernel_rfl) (fun _ _ _ h => h) (Or.inl ⟨by rfl, ?_⟩) hHeld ?_
  rotate_left
  · (intro w hSw; go_simp; (try with_reducible rfl))
  simp only [Act.put, List.getElem_toArray, List.getElem_cons_zero, List.getElem_cons_succ, List.setIfInBounds_toArray, List.set_cons_zero, List.set_cons_succ]
  refine wpAnyH_take (i := 2) (v := ?_) rfl (by kernel_rfl) (by kernel_rfl) (by kernel_rfl) (fun _ _ _ h => h) (Or.inl ⟨by rfl, ?_⟩) hHeld ?_
  rotate_left
  · (intro w hSw; go_simp; (try with_reducible rfl))
  simp only [Act.put, List.getElem_toArray, List.getElem_cons_zero, List.getElem_cons_succ, List.setIfInBounds_toArray, List.set_cons_zero, List.set_cons_succ]
  refine wpAnyH_take (i := 3) (v := ?_) rfl (by kernel_rfl) (by kernel_rfl) (by kernel_rfl) (fun _ _ _ h => h) (Or.inl ⟨by rfl, ?_⟩) hHeld ?_
  rotate_left
  · (intro w hSw; go_simp; (try with_reducible rfl))
  simp only [Act.put, List.getElem_toArray, List.getElem_cons_zero, List.getElem_cons_succ, List.setIfInBounds_toArray, List.set_cons_zero, List.set_cons_succ]
  refine wpAnyH_take (i := 4) (v := ?_) rfl (by kernel_rfl) (by kernel_rfl) (by kernel_rfl) (fun _ _ _ h => h) (Or.inl ⟨by rfl, ?_⟩) hHeld ?_
  rotate_left
  · (intro w hSw; go_simp; (try with_reducible rfl))
  simp only [Act.put, List.getElem_toArray, List.getElem_cons_zero, List.getElem_cons_succ, List.setIfInBounds_toArray, List.set_cons_zero, List.set_cons_succ]
  refine wpAnyH_take (i := 5) (v := ?_) rfl (by kernel_rfl) (by kernel_rfl) (by kernel_rfl) (fun _ _ _ h => h) (Or.inl ⟨by rfl, ?_⟩) hHeld ?_
  rotate_left
  · (intro w hSw; go_simp; (try with_reducible rfl))
  simp only [Act.put, List.getElem_toArray, List.getElem_cons_zero, List.getElem_cons_succ, List.setIfInBounds_toArray, List.set_cons_zero, List.set_cons_succ]
  refine wpAnyH_take (i := 6) (v := ?_) rfl (by kernel_rfl) (by kernel_rfl) (by kernel_rfl) (fun _ _ _ h => h) (Or.inl ⟨by rfl, ?_⟩) hHeld ?_
  rotate_left
  · (intro w hSw; go_simp; (try with_reducible rfl))
  simp only [Act.put, List.getElem_toArray, List.getElem_cons_zero, List.getElem_cons_succ, List.setIfInBounds_toArray, List.set_cons_zero, List.set_cons_succ]
  refine wpAnyH_take (i := 7) (v := ?_) rfl (by kernel_rfl) (by kernel_rfl) (by kernel_rfl) (fun _ _ _ h => h) (Or.inl ⟨by rfl, ?_⟩) hHeld ?_
  rotate_left
  · (intro w hSw; go_simp; (try with_reducible rfl))
  simp only [Act.put, List.getElem_toArray, List.getElem_cons_zero, List.getElem_cons_succ, List.setIfInBounds_toArray, List.set_cons_zero, List.set_cons_succ]
  refine wpAnyH_take (i := 8) (v := ?_) rfl (by kernel_rfl) (by kernel_rfl) (by kernel_rfl) (fun _ _ _ h => h) (Or.inl ⟨by rfl, ?_⟩) hHeld ?_
  rotate_left
  · (intro w hSw; go_simp; (try with_reducible rfl))
  simp only [Act.put, List.getElem_toArray, List.getElem_cons_zero, List.getElem_cons_succ, List.setIfInBounds_toArray, List.set_cons_zero, List.set_cons_succ]
  refine wpAnyH_take (i := 9) (v := ?_) rfl (by kernel_rfl) (by kernel_rfl) (by kernel_rfl) (fun _ _ _ h => h) (Or.inl ⟨by rfl, ?_⟩) hHeld ?_
  rotate_left
  · (intro w hSw; go_simp; (try with_reducible rfl))
  simp only [Act.put, List.getElem_toArray, List.getElem_cons_zero, List.getElem_cons_succ, List.setIfInBounds_toArray, List.set_cons_zero, List.set_cons_succ]
  refine wpAnyH_take (i := 10) (v := ?_) rfl (by kernel_rfl) (by kernel_rfl) (by kernel_rfl) (fun _ _ _ h => h) (Or.inl ⟨by rfl, ?_⟩) hHeld ?_
  rotate_left
  · (intro w hSw; go_simp; (try with_reducible rfl))
  simp only [Act.put, List.getElem_toArray, List.getElem_cons_zero, List.getElem_cons_succ, List.setIfInBounds_toArray, List.set_cons_zero, List.set_cons_succ]
  refine wpAnyH_done (by kernel_rfl) ?_ _
  have hbf := keepB hHeld HB.out
  clear k0 k1 k2
  go_wp2_with fail
  go_ret2
  exact ⟨by rw [HQ.out] <;> rfl, hbf⟩
end Go.Proofs.YtplfblccaeligaaDoor
namespace Go.Proofs.YtplfblccaeligaaDoor
open Go.RowKit Ex Mx
set_option maxRecDepth 100000
theorem and_all (u w : Nat) (hw : w < 256) : (u &&& w = w) ↔ ((List.range 8).all fun i => !(w.testBit i) || u.testBit i) = true := by
  rw [List.all_eq_true]
  constructor
  · intro h i _
    have h1 : (u &&& w).testBit i = w.testBit i := by rw [h]
    rw [Nat.testBit_and] at h1
    cases hb : w.testBit i
    · rfl
    · rw [hb, Bool.and_true] at h1
      rw [h1]; rfl
  · intro h
    refine Nat.eq_of_testBit_eq fun i => ?_
    rw [Nat.testBit_and]
    by_cases hi : i < 8
    · have h1 := h i (List.mem_range.2 hi)
      cases hb : w.testBit i
      · rw [Bool.and_false]
      · rw [hb] at h1
        rw [Bool.and_true]
        simpa using h1
    · have : w.testBit i = false := Nat.testBit_lt_two_pow (Nat.lt_of_lt_of_le hw (show 2 ^ 8 ≤ 2 ^ i from Nat.pow_le_pow_right (by omega) (by omega)))
      rw [this, Bool.and_false]
theorem has_bits (u w : Nat) (hu : u < 256) (hw : w < 256) : (bits .and .i64 (u : Int) (w : Int) == (w : Int)) = ((List.range 8).all fun i => !(w.testBit i) || u.testBit i) := by
  have h0 : bits .and .i64 (u : Int) (w : Int) = ((u &&& w : Nat) : Int) := by
    show IntKind.i64.wrap (((BitVec.ofInt 64 (u : Int) &&& BitVec.ofInt 64 (w : Int)).toNat : Nat) : Int) = _
    have h1 : (BitVec.ofInt 64 (u : Int)).toNat = u := by rw [BitVec.toNat_ofInt]; omega
    have h2 : (BitVec.ofInt 64 (w : Int)).toNat = w := by rw [BitVec.toNat_ofInt]; omega
    have h3 : u &&& w ≤ u := Nat.and_le_left
    rw [BitVec.toNat_and, h1, h2, IntKind.wrap_i64]
    omega
  rw [h0]
  have h := and_all u w hw
  by_cases e : u &&& w = w
  · rw [h.1 e, e]; simp
  · have e2 : ¬ ((List.range 8).all fun i => !(w.testBit i) || u.testBit i) = true := fun x => e (h.2 x)
    have e3 : ((List.range 8).all fun i => !(w.testBit i) || u.testBit i) = false := by simpa using e2
    rw [e3]
    have e4 : ¬ (((u &&& w : Nat) : Int) = (w : Int)) := by omega
    simpa using e4
set_option linter.unusedSimpArgs false in
set_option maxHeartbeats 0 in
theorem shHas_any {z : World} (T : TabF z) (s : StT) (O : SlT) (L : Nat → SlT) (cs : Array Value) (id word : Int) (w : World) (hR : ReadsS w.heap.size w cs s O L) (hn : s.objs.length ≤ 1000) (hl : ∀ z < 11, (s.lists z).length ≤ 1000) (hzw : Below z.heap.size z w) :
    Calls Tryd.prog 16 #[.agg cs, .int .i64 id, .int .i64 word] w fun en w' => en = .returned (.bool (hasT s id word)) ∧ Below w.heap.size w w' := by
  have hcs := hR.size
  have hsz : (Tryd.prog.info? 29).map (·.size) = some cs.size := by rw [hcs]; exact size37
  by_cases h1 : word < 1
  · have HQ := Lib.hid (show hasT s id word = false from by unfold hasT; rw [decide_eq_false (show ¬ 1 ≤ word by omega)]; simp)
    have d0 : decide (word < 1) = true := by simp; omega
    clear h1 hR hl hn
    go_enter Tryd.func16, Tryd.ntmps16
    go_upto_region 1 with fail
    have hba : Below w.heap.size w (w.alloc (.cells cs 29)) := (Below.refl _ _).alloc (Nat.le_refl _) _
    obtain ⟨w1, hw1⟩ : ∃ x, x = w.alloc (.cells cs 29) := ⟨_, rfl⟩
    have hs1 : StAt w1 w.heap.size cs := by rw [hw1]; exact StAt.new w cs
    rw [← hw1] at hba
    rw [← hw1]
    obtain ⟨gs, hgs⟩ : ∃ g, g = w.heap.size := ⟨_, rfl⟩
    rw [← hgs] at hs1
    rw [← hgs]
    clear hw1 hgs
    go_wp2_with fail
    go_ret
    exact ⟨by rw [HQ.out] <;> rfl, hba⟩
  have d0 : decide (word < 1) = false := by simp; omega
  by_cases h2 : 255 < word
  · have HQ := Lib.hid (show hasT s id word = false from by unfold hasT; rw [decide_eq_false (show ¬ word ≤ 255 by omega)]; simp)
    have d1 : decide (255 < word) = true := by simp; omega
    clear h1 h2 hR hl hn
    go_enter Tryd.func16, Tryd.ntmps16
    go_upto_region 1 with fail
    have hba : Below w.heap.size w (w.alloc (.cells cs 29)) := (Below.refl _ _).alloc (Nat.le_refl _) _
    obtain ⟨w1, hw1⟩ : ∃ x, x = w.alloc (.cells cs 29) := ⟨_, rfl⟩
    have hs1 : StAt w1 w.heap.size cs := by rw [hw1]; exact StAt.new w cs
    rw [← hw1] at hba
    rw [← hw1]
    obtain ⟨gs, hgs⟩ : ∃ g, g = w.heap.size := ⟨_, rfl⟩
    rw [← hgs] at hs1
    rw [← hgs]
    clear hw1 hgs
    go_wp2_with fail
    go_ret
    exact ⟨by rw [HQ.out] <;> rfl, hba⟩
  have d1 : decide (255 < word) = false := by simp; omega
  obtain ⟨wd, hwd, hw9⟩ : ∃ n : Nat, word = (n : Int) ∧ n < 256 := ⟨word.toNat, by omega, by omega⟩
  have hof := fun W (hb : Below w.heap.size w W) => shOf_any T s O L cs id W (hR.grow hb) hn hl (keepB hb hzw)
  obtain ⟨⟨p, q, u⟩, hx⟩ : ∃ x, x = ofT s id := ⟨_, rfl⟩
  rw [← hx] at hof
  simp only [shV] at hof
  by_cases h0 : ofE s id = 0
  case neg =>
    have HQ := Lib.hid (show hasT s id word = false from by
      have : isT s id = false := by
        cases hh : isT s id
        · rfl
        · exact absurd (ofE_0.2 hh) h0
      unfold hasT; rw [this]; simp)
    rw [errV_err h0] at hof
    clear hR hl h0 hn hx h1 h2 hwd
    go_enter Tryd.func16, Tryd.ntmps16
    go_upto_region 1 with fail
    have hba : Below w.heap.size w (w.alloc (.cells cs 29)) := (Below.refl _ _).alloc (Nat.le_refl _) _
    obtain ⟨w1, hw1⟩ : ∃ x, x = w.alloc (.cells cs 29) := ⟨_, rfl⟩
    have hs1 : StAt w1 w.heap.size cs := by rw [hw1]; exact StAt.new w cs
    rw [← hw1] at hba
    rw [← hw1]
    obtain ⟨gs, hgs⟩ : ∃ g, g = w.heap.size := ⟨_, rfl⟩
    rw [← hgs] at hs1
    rw [← hgs]
    clear hw1 hgs
    have ho1 := hof w1 hba
    clear hof
    go_wp2_with (refine wpList_load_row rfl 29 (.tmp 3) rfl gs rfl 29 _ (0, 0) _ hs1 Tryd.underlying29 rfl hsz ?_)
    refine ho1.mono ?_
    rintro en w2 ⟨rfl, hb2⟩
    have hb3 := ((Below.refl w2.heap.size w2).alloc (Nat.le_refl _) (.cells #[.int .i64 p, .int .i64 q, .int .i64 (u : Int)] 38))
    clear ho1
    go_wp2_with fail
    go_ret
    exact ⟨by rw [HQ.out] <;> rfl, keepB hb3 (keepB hb2 hba)⟩
  have hT := ofE_0.1 h0
  have hck : chkS s = 0 ∧ isB s id = true := by
    have h := hT
    unfold isT at h
    simpa using h
  have hbd := ofS_bd hck.1 (isB_in' hck.2) (by have := hl 8 (by omega); omega)
  have hxx : ofT s id = ofS s id := by unfold ofT; rw [if_pos h0]
  rw [← hxx, ← hx] at hbd
  have hu : u < 256 := hbd.2.2.2.2
  have hall := has_bits u wd hu hw9
  have HQ := Lib.hid (show hasT s id word = (bits .and .i64 (u : Int) (wd : Int) == (wd : Int)) from by
    rw [hall]
    unfold hasT
    rw [hT, decide_eq_true (show 1 ≤ word by omega), decide_eq_true (show word ≤ 255 by omega), ← hxx, ← hx, hwd, Int.toNat_natCast]
    simp)
  rw [h0, errV_nil] at hof
  rw [hwd] at d0 d1 ⊢
  rw [hwd] at HQ
  obtain ⟨ab, hab⟩ : ∃ x, x = bits .and .i64 (u : Int) (wd : Int) := ⟨_, rfl⟩
  rw [← hab] at HQ
  have eab := hab.symm
  clear hR hl h0 hn hx h1 h2 hwd hall hT hck hbd hxx hu hw9 hab
  go_enter Tryd.func16, Tryd.ntmps16
  go_upto_region 1 with fail
  have hba : Below w.heap.size w (w.alloc (.cells cs 29)) := (Below.refl _ _).alloc (Nat.le_refl _) _
  obtain ⟨w1, hw1⟩ : ∃ x, x = w.alloc (.cells cs 29) := ⟨_, rfl⟩
  have hs1 : StAt w1 w.heap.size cs := by rw [hw1]; exact StAt.new w cs
  rw [← hw1] at hba
  rw [← hw1]
  obtain ⟨gs, hgs⟩ : ∃ g, g = w.heap.size := ⟨_, rfl⟩
  rw [← hgs] at hs1
  rw [← hgs]
  clear hw1 hgs
  have ho1 := hof w1 hba
  clear hof
  go_wp2_with (refine wpList_load_row rfl 29 (.tmp 3) rfl gs rfl 29 _ (0, 0) _ hs1 Tryd.underlying29 rfl hsz ?_)
  refine ho1.mono ?_
  rintro en w2 ⟨rfl, hb2⟩
  have hb3 := ((Below.refl w2.heap.size w2).alloc (Nat.le_refl _) (.cells #[.int .i64 p, .int .i64 q, .int .i64 (u : Int)] 38))
  clear ho1
  go_wp2_with fail
  go_ret
  exact ⟨by rw [HQ.out] <;> rfl, keepB hb3 (keepB hb2 hba)⟩
set_option linter.unusedSimpArgs false in
set_option maxHeartbeats 0 in
theorem shBeasts_any {z : World} (T : TabF z) (s : StT) (O : SlT) (L : Nat → SlT) (cs : Array Value) (p : Int) (w : World) (hR : ReadsS w.heap.size w cs s O L) (hn : s.objs.length ≤ 1000) (hl : ∀ z < 11, (s.lists z).length ≤ 1000) (hzw : Below z.heap.size z w) :
    Calls Tryd.prog 17 #[.agg cs, .int .i64 p] w (ShIP w (beastT s p)) := by
  obtain ⟨i0, hi, hz0, hz1, hz2⟩ := info_parts info_intS
  have hcs := hR.size
  have hsz : (Tryd.prog.info? 29).map (·.size) = some cs.size := by rw [hcs]; exact size37
  have hchk := fun W (hb : Below w.heap.size w W) => check_code T s O L cs W W.heap.size (hR.grow hb) (Nat.le_refl _) (by omega) (fun z hz => by have := hl z hz; omega) (keepB hb hzw)
  by_cases hc0 : chkS s = 0
  case neg =>
    have HQ := Lib.hid (show beastT s p = [] from by unfold beastT; rw [if_neg hc0])
    rw [errV_err hc0] at hchk
    clear hR hl hc0 hn
    go_enter Tryd.func17, Tryd.ntmps17
    go_upto_region 1 with fail
    have hba : Below w.heap.size w (w.alloc (.cells cs 29)) := (Below.refl _ _).alloc (Nat.le_refl _) _
    obtain ⟨w1, hw1⟩ : ∃ x, x = w.alloc (.cells cs 29) := ⟨_, rfl⟩
    have hs1 : StAt w1 w.heap.size cs := by rw [hw1]; exact StAt.new w cs
    rw [← hw1] at hba
    rw [← hw1]
    obtain ⟨gs, hgs⟩ : ∃ g, g = w.heap.size := ⟨_, rfl⟩
    rw [← hgs] at hs1
    rw [← hgs]
    clear hw1 hgs
    have hck := hchk w1 hba
    clear hchk
    go_wp2_with (refine wpList_load_row rfl 29 (.tmp 2) rfl gs rfl 29 _ (0, 0) _ hs1 Tryd.underlying29 rfl hsz ?_)
    refine hck.mono ?_
    rintro en w2 ⟨rfl, hb2⟩
    clear hck
    go_wp2_with fail
    go_ret
    exact ⟨none, 0, 0, rfl, Nat.le_refl _, by rw [HQ.out]; exact Nums.none_, keepB hb2 hba⟩
  rw [hc0, errV_nil] at hchk
  have HQ := Lib.hid (show beastT s p = beastS s p from by unfold beastT; rw [if_pos hc0])
  have HBT := Lib.hid (fun i W (hb : Below w.heap.size w W) => shBeast_any s O L cs i W (hR.grow hb))
  have c0 : cs[0]? = some (.slice O.A O.n O.c) := by rw [hR.cs]; exact stC_objs _ _ _ _
  have c9 : cs[9]? = some (.slice (L 8).A (L 8).n (L 8).c) := by rw [hR.cs]; exact stC_list _ _ _ _ (z := 8) (by omega)
  have HR := Lib.hid hR
  have hOn := hR.on
  have hLn := (hR.l 8 (by omega)).len
  rw [hOn] at c0
  obtain ⟨q, hq⟩ : ∃ q, q = (L 8).n := ⟨_, rfl⟩
  rw [← hq] at c9 hLn
  have hNl : Nums .i64 w w.heap.size (L 8).A q (s.lists 8) := by rw [hq]; exact hR.l 8 (by omega)
  obtain ⟨AL, hAL⟩ : ∃ A, A = (L 8).A := ⟨_, rfl⟩
  rw [← hAL] at c9 hNl
  obtain ⟨cL, hcL⟩ : ∃ A, A = (L 8).c := ⟨_, rfl⟩
  rw [← hcL] at c9
  have HNL := Lib.hid hNl
  have HC0 := Lib.hid c0
  have HC9 := Lib.hid c9
  have HLn := Lib.hid hLn
  have hq1 : q ≤ 1000000 := by have := hl 8 (by omega); omega
  clear hR hOn hq hAL hcL hNl c0 c9 hLn hl hc0
  go_enter Tryd.func17, Tryd.ntmps17
  go_upto_region 1 with fail
  have hba : Below w.heap.size w (w.alloc (.cells cs 29)) := (Below.refl _ _).alloc (Nat.le_refl _) _
  obtain ⟨w1, hw1⟩ : ∃ x, x = w.alloc (.cells cs 29) := ⟨_, rfl⟩
  have hs1 : StAt w1 w.heap.size cs := by rw [hw1]; exact StAt.new w cs
  rw [← hw1] at hba
  rw [← hw1]
  obtain ⟨gs, hgs⟩ : ∃ g, g = w.heap.size := ⟨_, rfl⟩
  rw [← hgs] at hs1
  rw [← hgs]
  clear hw1 hgs
  have hck := hchk w1 hba
  clear hchk
  go_upto_region 2 with (refine wpList_load_row rfl 29 (.tmp 2) rfl gs rfl 29 _ (0, 0) _ hs1 Tryd.underlying29 rfl hsz ?_)
  refine hck.mono ?_
  rintro en w2 ⟨rfl, hb2⟩
  have HS2 := Lib.hid (hs1.keep hb2)
  have HB2 := Lib.hid (keepB hb2 hba)
  have k9 : w2.cell? ⟨gs, 9, none⟩ = some (.slice AL q cL) := by rw [HS2.out.cell]; exact HC9.out
  have HV0 := Lib.hid (show IW w2 none 0 0 (beastL s p ((s.lists 8).take 0)) w2 from ⟨Own.nil _, Below.refl _ _⟩)
  clear hck hs1 hb2 hba
  go_upto_region 5 with fail
  clear k9
  go_loopw [5, 17] (fun o i wr => ∃ (k m2 c2 : Nat) (A2 : Option Addr), i = .int .i64 ((k : Nat) : Int) ∧ o = .slice A2 m2 c2 ∧ k ≤ q ∧ m2 ≤ k ∧ Hid (IW w2 A2 m2 c2 (beastL s p ((s.lists 8).take k)) wr)) (fun _ i _ => q - (intOf i).toNat)
  case atStart => exact ⟨0, 0, 0, none, rfl, rfl, by omega, by omega, HV0⟩
  case round =>
    clear HV0
    obtain ⟨k, m2, c2, A2, rfl, rfl, hk, hmk, HV⟩ := hrel
    by_cases hlt : k < q
    · have hbw := keepB HV.out.b HB2.out
      obtain ⟨a, hA, _, hcell⟩ := (HNL.out.below hbw).at_ (show k < (s.lists 8).length by rw [HLn.out]; exact hlt)
      subst hA
      obtain ⟨id, hid⟩ : ∃ id, id = (s.lists 8)[k]'(by rw [HLn.out]; exact hlt) := ⟨_, rfl⟩
      rw [← hid] at hcell
      have HId := Lib.hid (show (s.lists 8).take (k + 1) = (s.lists 8).take k ++ [id] from by
        rw [List.take_add_one, List.getElem?_eq_getElem (by rw [HLn.out]; exact hlt), ← hid]; rfl)
      have hsr := HS2.out.keep HV.out.b
      have hbs := HBT.out id wr hbw
      have p0 : (0 : Int) ≤ (k : Int) := by omega
      have p1 : (k : Int) < (q : Int) := by omega
      have HBW := Lib.hid hbw
      obtain ⟨bb, hbb⟩ : ∃ b, b = isB s id := ⟨_, rfl⟩
      unfold BsP at hbs
      rw [← hbb] at hbs
      have HBb := Lib.hid hbb
      clear hid hbw hbb
      go_upto_region 8 with (refine load_wantS (by rfl) (.tmp 2) rfl gs rfl cs hsr hcs ?_)
      refine hbs.mono ?_
      rintro en w4 ⟨ys, c, rfl, hq4, _, hb4⟩
      have hnew : (w4.alloc (.cells zeroD 55)).heap[w4.heap.size]? = some (.cells zeroD 55 (0, 0)) := heap_alloc_new _ _
      have hys13 := cq_size hq4
      have hone := cq_one hq4
      have hinf := cq_info hq4
      have hz13 : zeroD.size = ys.size := by rw [hys13]; rfl
      have hb5 : Below w4.heap.size w4 ((w4.alloc (.cells zeroD 55)).setRow w4.heap.size ys) := below_setRow ((Below.refl _ _).alloc (Nat.le_refl _) _) _ _ (Nat.le_refl _)
      clear hbs hq4 hcell
      go_upto_region 8 with (refine wpList_store_row rfl 55 (.tmp 8) (.tmp 25) rfl w4.heap.size _ rfl rfl 55 zeroD hnew hinf hz13 hone ?_)
      obtain ⟨w5, hw5⟩ : ∃ w5, w5 = (w4.alloc (.cells zeroD 55)).setRow w4.heap.size ys := ⟨_, rfl⟩
      rw [← hw5] at hb5
      show Code.wp _ _ _ _ ((w4.alloc (.cells zeroD 55)).setRow w4.heap.size ys)
      rw [← hw5]
      have hb6 := keepB hb5 hb4
      have HV2 := Lib.hid (HV.out.keep hb6)
      have HB6 := Lib.hid (keepB hb6 HBW.out)
      have hsr5 := hsr.keep hb6
      clear hw5 hnew hys13 hone hinf hz13 hb5 hb4 hb6 HV HBW hsr
      by_cases hbt : bb = true
      · have hbi : isB s id = true := by rw [← HBb.out]; exact hbt
        obtain ⟨j, ob, rfl, hj, ho, hos⟩ := (isB_in' hbi).ob
        obtain ⟨b, off, hA0, hb, hc2⟩ := obj_num HR.out.o ho
        have k2 : w5.cell? ⟨b, off + j * 18 + 2, none⟩ = some (.int .i64 (ob 2)) := (HB6.out.cell (show (⟨b, off + j * 18 + 2, none⟩ : Addr).block < w.heap.size from hb)).trans (hc2 2 (by omega))
        have k0 : w5.cell? ⟨gs, 0, none⟩ = some (.slice (some ⟨b, off, none⟩) s.objs.length O.c) := by
          rw [hsr5.cell, HC0.out, hA0]
        have p2 : (0 : Int) ≤ (j : Int) := by omega
        have p3 : (j : Int) < (s.objs.length : Int) := by omega
        subst hbt
        by_cases hp : ob 2 = p
        · have HSeg := Lib.hid (show beastL s p ((s.lists 8).take (k + 1)) = beastL s p ((s.lists 8).take k) ++ [(j : Int)] from by
            rw [HId.out, beastL_app]; simp only [beastL]; rw [if_pos ⟨hbi, by rw [hos]; exact hp⟩, List.append_nil])
          have d0 : (ob 2 == p) = true := by simp [hp]
          have hbA : Below w5.heap.size w5 (w5.alloc (.cells #[.int .i64 (j : Int)] 3)) := (Below.refl _ _).alloc (Nat.le_refl _) _
          have hO := HV2.out.own.alloc (.cells #[.int .i64 (j : Int)] 3)
          have HBB := Lib.hid (keepB hbA HV2.out.b)
          have hsz5 := HBB.out.size
          clear hbi hos ho hA0 hb hc2 hbA hp HId hsr5
          go_wp2_with (at_builtin; refine wpList_app rfl (.tmp 38) (.tmp 40) _ rfl .i64 w2.heap.size 3 i0 _ 8 Tryd.underlying23 hi hz0 hz1 hz2 rfl A2 m2 c2 _ rfl hO _ (some ⟨w5.heap.size, 0, none⟩) 1 1 [(j : Int)] rfl (Nums.one _ _ _ _) (by omega) (by omega) hsz5 ?_; intro A7 c7 w7 ho7 hg7)
          have HV7 := Lib.hid (show IW w2 A7 (m2 + 1) c7 (beastL s p ((s.lists 8).take (k + 1))) w7 from by rw [HSeg.out]; exact ⟨ho7, hO.belowGrown HBB.out hsz5 hg7⟩)
          clear ho7 hg7 hO k0 k2
          go_roundw
          case rel => exact ⟨k + 1, m2 + 1, _, _, by go_num, rfl, by omega, by omega, HV7⟩
          case measure => simp [intOf]; omega
        · have HV3 := Lib.hid (show IW w2 A2 m2 c2 (beastL s p ((s.lists 8).take (k + 1))) w5 from by
            rw [HId.out, beastL_app]; simp only [beastL]; rw [if_neg (fun h => hp (by have := h.2; rw [hos] at this; exact this)), List.append_nil, List.append_nil]; exact HV2.out)
          have d0 : (ob 2 == p) = false := by simp [hp]
          clear hbi hos ho hA0 hb hc2 HId hp HV2 hsr5
          go_wp2_with fail
          go_roundw
          case rel => exact ⟨k + 1, m2, _, _, by go_num, rfl, by omega, by omega, HV3⟩
          case measure => simp [intOf]; omega
      · have hbf : bb = false := by simpa using hbt
        have HV3 := Lib.hid (show IW w2 A2 m2 c2 (beastL s p ((s.lists 8).take (k + 1))) w5 from by
          rw [HId.out, beastL_app]; simp only [beastL]; rw [if_neg (fun h => by rw [← HBb.out, hbf] at h; exact absurd h.1 (by decide)), List.append_nil, List.append_nil]; exact HV2.out)
        subst hbf
        clear hbt HId HV2 hsr5
        go_wp2_with fail
        go_roundw
        case rel => exact ⟨k + 1, m2, _, _, by go_num, rfl, by omega, by omega, HV3⟩
        case measure => simp [intOf]; omega
    · obtain rfl : k = q := by omega
      have HF := Lib.hid (show IW w2 A2 m2 c2 (beastS s p) wr from by
        have h := HV.out
        rw [List.take_of_length_le (by rw [HLn.out]; exact Nat.le_refl _)] at h
        exact h)
      have HB := Lib.hid (keepB HV.out.b HB2.out)
      clear HV
      go_wp2_with fail
      go_ret
      exact ⟨A2, m2, c2, rfl, HF.out.own.cap, by rw [HQ.out]; exact HF.out.own.nums, HB.out⟩
end Go.Proofs.YtplfblccaeligaaDoor
namespace Go.Proofs.YtplfblccaeligaaDoor
open Go.RowKit Ex Mx
theorem shSaid {z : World} (T : TabF z) : ShSaid z where
  of_ s O L cs id w hR hn hl _ hz := shOf_any T s O L cs id w hR hn hl hz
  left s O L cs id w hR hn hl _ hz := shLeft_any T s O L cs id w hR hn hl hz
  is_ s O L cs id w hR hn hl _ hz := shIs_any T s O L cs id w hR hn hl hz
  has s O L cs id word w hR hn hl _ _ hz := shHas_any T s O L cs id word w hR hn hl hz
  beasts s O L cs p w hR hn hl _ hz := shBeasts_any T s O L cs p w hR hn hl hz
  statics s O L cs w hR hn hl hz := shStatics_any T s O L cs w hR hn hl hz
end Go.Proofs.YtplfblccaeligaaDoor
namespace Go.Proofs.YtplfblccaeligaaDoor
open Go.RowKit Ex
set_option maxRecDepth 100000
theorem tabSh_of {W : World} (h : laidMetH Tryd.prog Rows.shapeOfRow.laid W) : TabF W := tabF_of h (by kernel_rfl)
theorem tabSh_has {W : World} (h : laidMetH Tryd.prog Rows.shapeHasRow.laid W) : TabF W := tabF_of h (by kernel_rfl)
theorem tabSh_plain {W : World} (h : laidMetH Tryd.prog Rows.shapePlainRow.laid W) : TabF W := tabF_of h (by kernel_rfl)
theorem tabSh_grows {W : World} (h : laidMetH Tryd.prog Rows.shapeGrowsRow.laid W) : TabF W := tabF_of h (by kernel_rfl)
end Go.Proofs.YtplfblccaeligaaDoor
