/- Layer 8: the reference's give, and effect of a row. -/
import Derived.Test.YtplfblccaeligaaDoorShG2
namespace Go.Proofs.YtplfblccaeligaaDoor
open Go.RowKit Ex Mx
namespace Ex
abbrev noC : Nat → Int := fun _ => 0
def giveA (n m : Int) : AbT := ⟨6, noC, true, 0, .node 15 n m 0 []⟩
/-- The effects within of a row. -/
def subsN (row : List Int) : Nat → List ET
  | 0 => []
  | k + 1 => subsN row k ++ [.node (row.getD (4 * k + 4) 0) (row.getD (4 * k + 5) 0) (row.getD (4 * k + 6) 0) (row.getD (4 * k + 7) 0) []]
/-- The effect of a row. -/
def effL (row : List Int) : ET := .node (row.getD 0 0) (row.getD 1 0) (row.getD 2 0) (row.getD 3 0) (subsN row ((row.length - 4) / 4))
theorem subsN_len (row : List Int) : ∀ k, (subsN row k).length = k
  | 0 => rfl
  | k + 1 => by simp [subsN, subsN_len row k]
end Ex
set_option linter.unusedSimpArgs false in
set_option maxRecDepth 100000 in
theorem giveRef_any (n m : Int) (w : World) : Calls Tryd.prog 35 #[.int .i64 n, .int .i64 m] w fun e w' => e = .returned (.agg (abC (giveA n m) (evC 15 n m 0 none 0 0))) ∧ Below w.heap.size w w' := by
  obtain ⟨cs, hcs⟩ : ∃ cs, cs = abC (giveA n m) (evC 15 n m 0 none 0 0) := ⟨_, rfl⟩
  rw [← hcs]
  go_enter Tryd.func35, Tryd.ntmps35
  go_wp2_with fail
  refine bodyPost_ret (v := .agg cs) ?_ rfl ⟨rfl, (Below.refl _ _).alloc (Nat.le_refl _) _⟩
  rw [hcs]
  refine results_cell_one (ty := 79) (p := 4) (by kernel_rfl) _ _ w.heap.size 79 _ (0, 0) _ rfl ?_ Tryd.underlying79 rfl ?_
  · have : abC (giveA n m) (evC 15 n m 0 none 0 0) = #[.int .i64 6, .int .i64 0, .int .i64 0, .int .i64 0, .int .i64 0, .int .i64 0, .int .i64 0, .bool true, .int .i64 0, .int .i64 15, .int .i64 n, .int .i64 m, .int .i64 0, .slice none 0 0] := abC14 _ _ _ _ _ _
    rw [this]
    exact heap_alloc_new _ _
  · rw [show (abC (giveA n m) (evC 15 n m 0 none 0 0)).size = 14 by simp [abC, arr_size, evC]]
    exact size14
structure EfS (w : World) (o x y z : Int) (P : Nat) (A : Option Addr) (k c : Nat) (ts : List ET) (W : World) : Prop where
  own : OwnE W (P + 1) 1 A k c ts
  ev : EvAt W P (evC o x y z A k c)
  z : EvAt W w.heap.size zeroE
  b : Below w.heap.size w W
theorem EfS.keep {w : World} {o x y z : Int} {P : Nat} {A : Option Addr} {k c : Nat} {ts : List ET} {W W' : World} (h : EfS w o x y z P A k c ts W) (hb : Below W.heap.size W W') : EfS w o x y z P A k c ts W' :=
  ⟨h.own.below hb, h.ev.keep hb, h.z.keep hb, keepB hb h.b⟩
theorem EfS.store {w : World} {o x y z : Int} {P : Nat} {A A8 : Option Addr} {k c c8 : Nat} {ts : List ET} {t : ET} {W W8 : World} (h : EfS w o x y z P A k c ts W) (hP : w.heap.size < P)
    (ho : OwnE W8 (P + 1) 1 A8 (k + 1) c8 (ts ++ [t])) (hg : W.grownBy W8 (Value.slice A k c).ownBlock) :
    EvAt W8 P (evC o x y z A k c) ∧ EfS w o x y z P A8 (k + 1) c8 (ts ++ [t]) (W8.setCell ⟨P, 4, none⟩ (.slice A8 (k + 1) c8)) := by
  have hPl := h.ev.lt
  have hown : ∀ j, j < P + 1 → some j ≠ (Value.slice A k c).ownBlock := fun j hj e => by have := h.own.ownLt j e.symm; omega
  have hev : EvAt W8 P (evC o x y z A k c) := (hg.block P h.ev.lt (hown P (by omega))).trans h.ev
  have hz := (hg.block w.heap.size h.z.lt (hown _ (by omega))).trans h.z
  have hbw : Below w.heap.size w W8 := ⟨hg.os.trans h.b.os, hg.tape.trans h.b.tape, hg.output.trans h.b.output, Nat.le_trans h.b.size hg.size, fun j hj => (hg.block j (by have := h.z.lt; omega) (hown j (by omega))).trans (h.b.block j hj)⟩
  refine ⟨hev, ho.same (by simp) (fun b hb _ => heap_setCell_other W8 _ b _ (by simp; omega)), heap_setCell_same W8 P 4 _ _ _ hev, (heap_setCell_other W8 _ _ _ (by simp; omega)).trans hz, hbw.setCell (by simp; omega) _⟩
def EfRel (w : World) (o x y z : Int) (P m : Nat) (row : List Int) (i : Value) (W : World) : Prop :=
  ∃ (k p : Nat) (A : Option Addr) (c : Nat), i = .int .i64 ((p : Nat) : Int) ∧ p = 4 * k + 4 ∧ k ≤ m ∧ EfS w o x y z P A k c (subsN row k) W
/-- What effect answers, in blocks of its own. -/
def EffQ (row : List Int) (w : World) (e : Ending) (w' : World) : Prop := ∃ cs, e = .returned (.agg cs) ∧ ReadsQ (fun b => w.heap.size ≤ b ∧ b < w'.heap.size) w' 2 cs (effL row) ∧ Below w.heap.size w w'
set_option linter.unusedSimpArgs false in
set_option maxRecDepth 100000 in
set_option maxHeartbeats 2000000 in
theorem effectRef_any (row : List Int) (b f n c m : Nat) (w : World) (hN : Nums .i64 w w.heap.size (some ⟨b, f, none⟩) n row) (hm : row.length = 4 * m + 4) (hm1 : m ≤ 100) (hin : ∀ (i : Nat), In64 (row.getD i 0)) :
    Calls Tryd.prog 37 #[.slice (some ⟨b, f, none⟩) n c] w (EffQ row w) := by
  have hln := hN.len
  have cellAt : ∀ i, i < n → ∀ W, Below w.heap.size w W → W.cell? ⟨b, f + i, none⟩ = some (.int .i64 (row.getD i 0)) := fun i hi W hW => by
    obtain ⟨a', e, hb, hc⟩ := hN.at_ (i := i) (by omega)
    injection e with e
    subst e
    rw [List.getD_eq_getElem?_getD, List.getElem?_eq_getElem (by omega)]
    have := (hW.cell (by rw [addr_block]; exact hb)).trans hc
    rw [Addr.add_mid] at this
    exact this
  have HC := Lib.hid cellAt
  have HIn := Lib.hid hin
  have HM := Lib.hid (show effL row = .node (row.getD 0 0) (row.getD 1 0) (row.getD 2 0) (row.getD 3 0) (subsN row m) by unfold effL; rw [show (row.length - 4) / 4 = m by omega])
  clear cellAt hin hN
  go_enter Tryd.func37, Tryd.ntmps37
  go_upto_region 1 with fail
  obtain ⟨w1, hw1⟩ : ∃ w1, w1 = w.alloc (.cells zeroE 65) := ⟨_, rfl⟩
  have hZ : EvAt w1 w.heap.size zeroE := by rw [hw1]; exact EvAt.new _ _
  have hb1 : Below w.heap.size w w1 := by rw [hw1]; exact (Below.refl _ _).alloc (Nat.le_refl _) _
  rw [← hw1]
  clear hw1
  obtain ⟨o, ho⟩ : ∃ o, o = row.getD 0 0 := ⟨_, rfl⟩
  obtain ⟨x, hx⟩ : ∃ o, o = row.getD 1 0 := ⟨_, rfl⟩
  obtain ⟨y, hy⟩ : ∃ o, o = row.getD 2 0 := ⟨_, rfl⟩
  obtain ⟨z, hz⟩ : ∃ o, o = row.getD 3 0 := ⟨_, rfl⟩
  rw [← ho, ← hx, ← hy, ← hz] at HM
  have HI4 := Lib.hid (show In64 o ∧ In64 x ∧ In64 y ∧ In64 z by rw [ho, hx, hy, hz]; exact ⟨HIn.out 0, HIn.out 1, HIn.out 2, HIn.out 3⟩)
  have r0 : ∀ W, Below w1.heap.size w1 W → W.cell? ⟨b, f, none⟩ = some (.int .i64 o) := fun W hW => by have h := HC.out 0 (by omega) W (keepB hW hb1); rw [← ho] at h; exact h
  have r1 : ∀ W, Below w1.heap.size w1 W → W.cell? ⟨b, f + 1, none⟩ = some (.int .i64 x) := fun W hW => by have h := HC.out 1 (by omega) W (keepB hW hb1); rw [← hx] at h; exact h
  have r2 : ∀ W, Below w1.heap.size w1 W → W.cell? ⟨b, f + 2, none⟩ = some (.int .i64 y) := fun W hW => by have h := HC.out 2 (by omega) W (keepB hW hb1); rw [← hy] at h; exact h
  have r3 : ∀ W, Below w1.heap.size w1 W → W.cell? ⟨b, f + 3, none⟩ = some (.int .i64 z) := fun W hW => by have h := HC.out 3 (by omega) W (keepB hW hb1); rw [← hz] at h; exact h
  clear ho hx hy hz
  have l0 : 0 < n := by omega
  have l1 : (1 : Int) < (n : Int) := by omega
  have l2 : (2 : Int) < (n : Int) := by omega
  have l3 : (3 : Int) < (n : Int) := by omega
  refine region_below (by kernel_rfl) (fun hHeld => ?_)
  refine wpAnyH_take (i := 0) (v := ?_) rfl (by kernel_rfl) (by kernel_rfl) (by kernel_rfl) (fun _ _ _ h => h) (Or.inl ⟨by rfl, ?_⟩) hHeld ?_
  rotate_left
  · (intro w hSw; go_simp; (try with_reducible rfl))
  simp only [Act.put, List.getElem_toArray, List.getElem_cons_zero, List.getElem_cons_succ, List.setIfInBounds_toArray, List.set_cons_zero, List.set_cons_succ]
  refine wpAnyH_take (i := 1) (v := ?_) rfl (by kernel_rfl) (by kernel_rfl) (by kernel_rfl) (fun _ _ _ h => h) (Or.inl ⟨by rfl, ?_⟩) hHeld ?_
  rotate_left
  · (intro w hSw; go_simp; (try with_reducible rfl))
  simp only [Act.put, List.getElem_toArray, List.getElem_cons_zero, List.getElem_cons_succ, List.setIfInBounds_toArray, List.set_cons_zero, List.set_cons_succ]
  refine wpAnyH_take (i := 2) (v := ?_) rfl (by kernel_rfl) (by kernel_rfl) (by kernel_rfl) (fun _ _ _ h => h) (Or.inl ⟨by rfl, ?_⟩) hHeld ?_
  rotate_left
  · (intro w hSw; go_simp; (try with_reducible rfl))
  simp only [Act.put, List.getElem_toArray, List.getElem_cons_zero, List.getElem_cons_succ, List.setIfInBounds_toArray, List.set_cons_zero, List.set_cons_succ]
  refine wpAnyH_take (i := 3) (v := ?_) rfl (by kernel_rfl) (by kernel_rfl) (by kernel_rfl) (fun _ _ _ h => h) (Or.inl ⟨by rfl, ?_⟩) hHeld ?_
  rotate_left
  · (intro w hSw; go_simp; (try with_reducible rfl))
  simp only [Act.put, List.getElem_toArray, List.getElem_cons_zero, List.getElem_cons_succ, List.setIfInBounds_toArray, List.set_cons_zero, List.set_cons_succ]
  refine wpAnyH_take (i := 4) (v := ?_) rfl (by kernel_rfl) (by kernel_rfl) (by kernel_rfl) (fun _ _ _ h => h) (Or.inl ⟨by rfl, ?_⟩) hHeld ?_
  rotate_left
  · (intro w hSw; go_simp; (try with_reducible rfl))
  simp only [Act.put, List.getElem_toArray, List.getElem_cons_zero, List.getElem_cons_succ, List.setIfInBounds_toArray, List.set_cons_zero, List.set_cons_succ]
  refine wpAnyH_take (i := 5) (v := ?_) rfl (by kernel_rfl) (by kernel_rfl) (by kernel_rfl) (fun _ _ _ h => h) (Or.inl ⟨by rfl, ?_⟩) hHeld ?_
  rotate_left
  · (intro w hSw; go_simp; (try with_reducible rfl))
  simp only [Act.put, List.getElem_toArray, List.getElem_cons_zero, List.getElem_cons_succ, List.setIfInBounds_toArray, List.set_cons_zero, List.set_cons_succ]
  refine wpAnyH_take (i := 6) (v := ?_) rfl (by kernel_rfl) (by kernel_rfl) (by kernel_rfl) (fun _ _ _ h => h) (Or.inl ⟨by rfl, ?_⟩) hHeld ?_
  rotate_left
  · (intro w hSw; go_simp; (try with_reducible rfl))
  simp only [Act.put, List.getElem_toArray, List.getElem_cons_zero, List.getElem_cons_succ, List.setIfInBounds_toArray, List.set_cons_zero, List.set_cons_succ]
  refine wpAnyH_take (i := 7) (v := ?_) rfl (by kernel_rfl) (by kernel_rfl) (by kernel_rfl) (fun _ _ _ h => h) (Or.inl ⟨by rfl, ?_⟩) hHeld ?_
  rotate_left
  · (intro w hSw; go_simp; (try with_reducible rfl))
  simp only [Act.put, List.getElem_toArray, List.getElem_cons_zero, List.getElem_cons_succ, List.setIfInBounds_toArray, List.set_cons_zero, List.set_cons_succ]
  refine wpAnyH_take (i := 8) (v := ?_) rfl (by kernel_rfl) (by kernel_rfl) (by kernel_rfl) (fun _ _ _ h => h) (Or.inl ⟨by rfl, ?_⟩) hHeld ?_
  rotate_left
  · (intro w hSw; go_simp; (try with_reducible rfl))
  simp only [Act.put, List.getElem_toArray, List.getElem_cons_zero, List.getElem_cons_succ, List.setIfInBounds_toArray, List.set_cons_zero, List.set_cons_succ]
  refine wpAnyH_take (i := 9) (v := ?_) rfl (by kernel_rfl) (by kernel_rfl) (by kernel_rfl) (fun _ _ _ h => h) (Or.inl ⟨by rfl, ?_⟩) hHeld ?_
  rotate_left
  · (intro w hSw; go_simp; (try with_reducible rfl))
  simp only [Act.put, List.getElem_toArray, List.getElem_cons_zero, List.getElem_cons_succ, List.setIfInBounds_toArray, List.set_cons_zero, List.set_cons_succ]
  refine wpAnyH_take (i := 10) (v := ?_) rfl (by kernel_rfl) (by kernel_rfl) (by kernel_rfl) (fun _ _ _ h => h) (Or.inl ⟨by rfl, ?_⟩) hHeld ?_
  rotate_left
  · (intro w hSw; go_simp; (try with_reducible rfl))
  simp only [Act.put, List.getElem_toArray, List.getElem_cons_zero, List.getElem_cons_succ, List.setIfInBounds_toArray, List.set_cons_zero, List.set_cons_succ]
  refine wpAnyH_take (i := 11) (v := ?_) rfl (by kernel_rfl) (by kernel_rfl) (by kernel_rfl) (fun _ _ _ h => h) (Or.inl ⟨by rfl, ?_⟩) hHeld ?_
  rotate_left
  · (intro w hSw; go_simp; (try with_reducible rfl))
  simp only [Act.put, List.getElem_toArray, List.getElem_cons_zero, List.getElem_cons_succ, List.setIfInBounds_toArray, List.set_cons_zero, List.set_cons_succ]
  refine wpAnyH_take (i := 12) (v := ?_) rfl (by kernel_rfl) (by kernel_rfl) (by kernel_rfl) (fun _ _ _ h => h) (Or.inl ⟨by rfl, ?_⟩) hHeld ?_
  rotate_left
  · (intro w hSw; go_simp; (try with_reducible rfl))
  simp only [Act.put, List.getElem_toArray, List.getElem_cons_zero, List.getElem_cons_succ, List.setIfInBounds_toArray, List.set_cons_zero, List.set_cons_succ]
  clear r0 r1 r2 r3 l0 l1 l2 l3
  generalize w1.drew = W0 at hHeld ⊢
  have hsW := hHeld.size
  have hzl := hZ.lt
  refine wpAnyH_ready (rs := [13]) (by kernel_rfl) (by simp) ?_
  refine AllReadyH.cons rfl (fun K hK => ?_) AllReadyH.nil
  simp only [List.getElem_toArray, List.getElem_cons_zero, List.getElem_cons_succ]
  go_simp
  obtain ⟨W1, hW⟩ : ∃ W, W = W0.alloc (.cells zeroE 65) := ⟨_, rfl⟩
  have hx1 : EvAt W1 W0.heap.size zeroE := by rw [hW]; exact EvAt.new _ _
  have hbW : Below W0.heap.size W0 W1 := by rw [hW]; exact (Below.refl _ _).alloc (Nat.le_refl _) _
  rw [← hW]
  clear hW
  have hB1 := keepB hbW hHeld
  refine hK.out _ _ hB1 (fun _ => ?_)
  clear hK K
  try simp only [Act.put, List.setIfInBounds_toArray, List.set_cons_zero, List.set_cons_succ]
  refine wpAnyH_ready (rs := [14]) (by kernel_rfl) (by simp) ?_
  refine AllReadyH.cons rfl (fun K hK => ?_) AllReadyH.nil
  simp only [List.getElem_toArray, List.getElem_cons_zero, List.getElem_cons_succ]
  refine wp_store_row 65 (.tmp 3) (.tmp 17) rfl W0.heap.size (evC o x y z none 0 0) rfl rfl 65 zeroE hx1 size5 rfl (ev_one _ _ _ _ _ _ _) ?_
  refine hK.out _ _ (below_setRow hB1 _ _ hsW) (fun _ => ?_)
  clear hK K
  try simp only [Act.put, List.setIfInBounds_toArray, List.set_cons_zero, List.set_cons_succ]
  refine wpAnyH_done (by kernel_rfl) ?_ _
  obtain ⟨W2, hW⟩ : ∃ W, W = W1.setRow W0.heap.size (evC o x y z none 0 0) := ⟨_, rfl⟩
  have HS2 := Lib.hid (show EfS w o x y z W0.heap.size none 0 0 (subsN row 0) W2 by
    rw [hW]
    exact ⟨OwnE.nil _ _ _, setRow_heap _ _ _ _ _ _ hx1, (setRow_other _ _ _ _ (by omega)).trans (hZ.keep hB1), below_setRow (keepB hB1 hb1) _ _ (by omega)⟩)
  have hP : w.heap.size < W0.heap.size := by omega
  rw [← hW]
  clear hW hB1 hbW hx1 hZ hb1 hHeld hzl hsW
  obtain ⟨P, hPe⟩ : ∃ P, P = W0.heap.size := ⟨_, rfl⟩
  rw [← hPe] at HS2 hP ⊢
  clear hPe
  go_upto_region 3 with fail
  go_loopw [4] (fun i wr => EfRel w o x y z P m row i wr) (fun i _ => row.length - (intOf i).toNat)
  case atStart => exact ⟨0, 4, none, 0, rfl, rfl, by omega, HS2.out⟩
  case round =>
    obtain ⟨k, p, A4, c4, rfl, hp, hk, hS⟩ := hrel
    have HS := Lib.hid hS
    have HP := Lib.hid hp
    clear hS HS2
    by_cases hlt : k < m
    · have hd : decide (p < n) = true := by simp; omega
      have hpn : p + 3 < n := by omega
      have hp4 : p ≤ 404 := by omega
      clear hp
      obtain ⟨x0, e0⟩ : ∃ o, o = row.getD p 0 := ⟨_, rfl⟩
      obtain ⟨x1, e1⟩ : ∃ o, o = row.getD (p + 1) 0 := ⟨_, rfl⟩
      obtain ⟨x2, e2⟩ : ∃ o, o = row.getD (p + 2) 0 := ⟨_, rfl⟩
      obtain ⟨x3, e3⟩ : ∃ o, o = row.getD (p + 3) 0 := ⟨_, rfl⟩
      have HTk := Lib.hid (show subsN row (k + 1) = subsN row k ++ [.node x0 x1 x2 x3 []] by rw [e0, e1, e2, e3, HP.out]; rfl)
      have HI5 := Lib.hid (show In64 x0 ∧ In64 x1 ∧ In64 x2 ∧ In64 x3 by rw [e0, e1, e2, e3]; exact ⟨HIn.out _, HIn.out _, HIn.out _, HIn.out _⟩)
      have r0 : ∀ W, Below w.heap.size w W → W.cell? ⟨b, f + p, none⟩ = some (.int .i64 x0) := fun W hW => by have h := HC.out p (by omega) W hW; rw [← e0] at h; exact h
      have r1 : ∀ W, Below w.heap.size w W → W.cell? ⟨b, f + (p + 1), none⟩ = some (.int .i64 x1) := fun W hW => by have h := HC.out (p + 1) (by omega) W hW; rw [← e1] at h; exact h
      have r2 : ∀ W, Below w.heap.size w W → W.cell? ⟨b, f + (p + 2), none⟩ = some (.int .i64 x2) := fun W hW => by have h := HC.out (p + 2) (by omega) W hW; rw [← e2] at h; exact h
      have r3 : ∀ W, Below w.heap.size w W → W.cell? ⟨b, f + (p + 3), none⟩ = some (.int .i64 x3) := fun W hW => by have h := HC.out (p + 3) (by omega) W hW; rw [← e3] at h; exact h
      clear e0 e1 e2 e3
      have g0 : (0 : Int) ≤ (p : Int) := by omega
      have l0 : (p : Int) < (n : Int) := by omega
      obtain ⟨p1, hp1⟩ : ∃ q, q = p + 1 := ⟨_, rfl⟩
      have v1 : IntKind.i64.wrap ((p : Int) + 1) = (p1 : Int) := by rw [i64_in (by omega) (by omega), hp1]; omega
      have g1 : (0 : Int) ≤ (p1 : Int) := by omega
      have l1 : (p1 : Int) < (n : Int) := by omega
      rw [← hp1] at r1
      clear hp1
      obtain ⟨p2, hp2⟩ : ∃ q, q = p + 2 := ⟨_, rfl⟩
      have v2 : IntKind.i64.wrap ((p : Int) + 2) = (p2 : Int) := by rw [i64_in (by omega) (by omega), hp2]; omega
      have g2 : (0 : Int) ≤ (p2 : Int) := by omega
      have l2 : (p2 : Int) < (n : Int) := by omega
      rw [← hp2] at r2
      clear hp2
      obtain ⟨p3, hp3⟩ : ∃ q, q = p + 3 := ⟨_, rfl⟩
      have v3 : IntKind.i64.wrap ((p : Int) + 3) = (p3 : Int) := by rw [i64_in (by omega) (by omega), hp3]; omega
      have g3 : (0 : Int) ≤ (p3 : Int) := by omega
      have l3 : (p3 : Int) < (n : Int) := by omega
      rw [← hp3] at r3
      clear hp3
      go_upto_region 5 with fail
      refine wp_region_held_drew (S := fun W => Below w.heap.size w W) (by kernel_rfl) HS.out.b.drew (fun hHeld => ?_)
      refine wpAnyH_take (i := 0) (v := ?_) rfl (by kernel_rfl) (by kernel_rfl) (by kernel_rfl) (fun _ _ _ h => h) (Or.inl ⟨by rfl, ?_⟩) hHeld ?_
      rotate_left
      · (intro w hSw; go_simp; (try with_reducible rfl))
      simp only [Act.put, List.getElem_toArray, List.getElem_cons_zero, List.getElem_cons_succ, List.setIfInBounds_toArray, List.set_cons_zero, List.set_cons_succ]
      refine wpAnyH_take (i := 2) (v := ?_) rfl (by kernel_rfl) (by kernel_rfl) (by kernel_rfl) (fun _ _ _ h => h) (Or.inl ⟨by rfl, ?_⟩) hHeld ?_
      rotate_left
      · (intro w hSw; go_simp; (try with_reducible rfl))
      simp only [Act.put, List.getElem_toArray, List.getElem_cons_zero, List.getElem_cons_succ, List.setIfInBounds_toArray, List.set_cons_zero, List.set_cons_succ]
      refine wpAnyH_take (i := 3) (v := ?_) rfl (by kernel_rfl) (by kernel_rfl) (by kernel_rfl) (fun _ _ _ h => h) (Or.inl ⟨by rfl, ?_⟩) hHeld ?_
      rotate_left
      · (intro w hSw; go_simp; (try with_reducible rfl))
      simp only [Act.put, List.getElem_toArray, List.getElem_cons_zero, List.getElem_cons_succ, List.setIfInBounds_toArray, List.set_cons_zero, List.set_cons_succ]
      refine wpAnyH_take (i := 4) (v := ?_) rfl (by kernel_rfl) (by kernel_rfl) (by kernel_rfl) (fun _ _ _ h => h) (Or.inl ⟨by rfl, ?_⟩) hHeld ?_
      rotate_left
      · (intro w hSw; go_simp; (try with_reducible rfl))
      simp only [Act.put, List.getElem_toArray, List.getElem_cons_zero, List.getElem_cons_succ, List.setIfInBounds_toArray, List.set_cons_zero, List.set_cons_succ]
      refine wpAnyH_take (i := 5) (v := ?_) rfl (by kernel_rfl) (by kernel_rfl) (by kernel_rfl) (fun _ _ _ h => h) (Or.inl ⟨by rfl, ?_⟩) hHeld ?_
      rotate_left
      · (intro w hSw; go_simp; (try with_reducible rfl))
      simp only [Act.put, List.getElem_toArray, List.getElem_cons_zero, List.getElem_cons_succ, List.setIfInBounds_toArray, List.set_cons_zero, List.set_cons_succ]
      refine wpAnyH_take (i := 6) (v := ?_) rfl (by kernel_rfl) (by kernel_rfl) (by kernel_rfl) (fun _ _ _ h => h) (Or.inl ⟨by rfl, ?_⟩) hHeld ?_
      rotate_left
      · (intro w hSw; go_simp; (try with_reducible rfl))
      simp only [Act.put, List.getElem_toArray, List.getElem_cons_zero, List.getElem_cons_succ, List.setIfInBounds_toArray, List.set_cons_zero, List.set_cons_succ]
      refine wpAnyH_take (i := 7) (v := ?_) rfl (by kernel_rfl) (by kernel_rfl) (by kernel_rfl) (fun _ _ _ h => h) (Or.inl ⟨by rfl, ?_⟩) hHeld ?_
      rotate_left
      · (intro w hSw; go_simp; (try with_reducible rfl))
      simp only [Act.put, List.getElem_toArray, List.getElem_cons_zero, List.getElem_cons_succ, List.setIfInBounds_toArray, List.set_cons_zero, List.set_cons_succ]
      refine wpAnyH_take (i := 8) (v := ?_) rfl (by kernel_rfl) (by kernel_rfl) (by kernel_rfl) (fun _ _ _ h => h) (Or.inl ⟨by rfl, ?_⟩) hHeld ?_
      rotate_left
      · (intro w hSw; go_simp; (try with_reducible rfl))
      simp only [Act.put, List.getElem_toArray, List.getElem_cons_zero, List.getElem_cons_succ, List.setIfInBounds_toArray, List.set_cons_zero, List.set_cons_succ]
      refine wpAnyH_take (i := 9) (v := ?_) rfl (by kernel_rfl) (by kernel_rfl) (by kernel_rfl) (fun _ _ _ h => h) (Or.inl ⟨by rfl, ?_⟩) hHeld ?_
      rotate_left
      · (intro w hSw; go_simp; (try with_reducible rfl))
      simp only [Act.put, List.getElem_toArray, List.getElem_cons_zero, List.getElem_cons_succ, List.setIfInBounds_toArray, List.set_cons_zero, List.set_cons_succ]
      refine wpAnyH_take (i := 10) (v := ?_) rfl (by kernel_rfl) (by kernel_rfl) (by kernel_rfl) (fun _ _ _ h => h) (Or.inl ⟨by rfl, ?_⟩) hHeld ?_
      rotate_left
      · (intro w hSw; go_simp; (try with_reducible rfl))
      simp only [Act.put, List.getElem_toArray, List.getElem_cons_zero, List.getElem_cons_succ, List.setIfInBounds_toArray, List.set_cons_zero, List.set_cons_succ]
      refine wpAnyH_take (i := 11) (v := ?_) rfl (by kernel_rfl) (by kernel_rfl) (by kernel_rfl) (fun _ _ _ h => h) (Or.inl ⟨by rfl, ?_⟩) hHeld ?_
      rotate_left
      · (intro w hSw; go_simp; (try with_reducible rfl))
      simp only [Act.put, List.getElem_toArray, List.getElem_cons_zero, List.getElem_cons_succ, List.setIfInBounds_toArray, List.set_cons_zero, List.set_cons_succ]
      refine wpAnyH_take (i := 12) (v := ?_) rfl (by kernel_rfl) (by kernel_rfl) (by kernel_rfl) (fun _ _ _ h => h) (Or.inl ⟨by rfl, ?_⟩) hHeld ?_
      rotate_left
      · (intro w hSw; go_simp; (try with_reducible rfl))
      simp only [Act.put, List.getElem_toArray, List.getElem_cons_zero, List.getElem_cons_succ, List.setIfInBounds_toArray, List.set_cons_zero, List.set_cons_succ]
      refine wpAnyH_take (i := 13) (v := ?_) rfl (by kernel_rfl) (by kernel_rfl) (by kernel_rfl) (fun _ _ _ h => h) (Or.inl ⟨by rfl, ?_⟩) hHeld ?_
      rotate_left
      · (intro w hSw; go_simp; (try with_reducible rfl))
      simp only [Act.put, List.getElem_toArray, List.getElem_cons_zero, List.getElem_cons_succ, List.setIfInBounds_toArray, List.set_cons_zero, List.set_cons_succ]
      refine wpAnyH_take (i := 14) (v := ?_) rfl (by kernel_rfl) (by kernel_rfl) (by kernel_rfl) (fun _ _ _ h => h) (Or.inl ⟨by rfl, ?_⟩) hHeld ?_
      rotate_left
      · (intro w hSw; go_simp; (try with_reducible rfl))
      simp only [Act.put, List.getElem_toArray, List.getElem_cons_zero, List.getElem_cons_succ, List.setIfInBounds_toArray, List.set_cons_zero, List.set_cons_succ]
      refine wpAnyH_take (i := 15) (v := ?_) rfl (by kernel_rfl) (by kernel_rfl) (by kernel_rfl) (fun _ _ _ h => h) (Or.inl ⟨by rfl, ?_⟩) hHeld ?_
      rotate_left
      · (intro w hSw; go_simp; (try with_reducible rfl))
      simp only [Act.put, List.getElem_toArray, List.getElem_cons_zero, List.getElem_cons_succ, List.setIfInBounds_toArray, List.set_cons_zero, List.set_cons_succ]
      refine wpAnyH_take (i := 16) (v := ?_) rfl (by kernel_rfl) (by kernel_rfl) (by kernel_rfl) (fun _ _ _ h => h) (Or.inl ⟨by rfl, ?_⟩) hHeld ?_
      rotate_left
      · (intro w hSw; go_simp; (try with_reducible rfl))
      simp only [Act.put, List.getElem_toArray, List.getElem_cons_zero, List.getElem_cons_succ, List.setIfInBounds_toArray, List.set_cons_zero, List.set_cons_succ]
      refine wpAnyH_take (i := 17) (v := ?_) rfl (by kernel_rfl) (by kernel_rfl) (by kernel_rfl) (fun _ _ _ h => h) (Or.inl ⟨by rfl, ?_⟩) hHeld ?_
      rotate_left
      · (intro w hSw; go_simp; (try with_reducible rfl))
      simp only [Act.put, List.getElem_toArray, List.getElem_cons_zero, List.getElem_cons_succ, List.setIfInBounds_toArray, List.set_cons_zero, List.set_cons_succ]
      refine wpAnyH_take (i := 18) (v := ?_) rfl (by kernel_rfl) (by kernel_rfl) (by kernel_rfl) (fun _ _ _ h => h) (Or.inl ⟨by rfl, ?_⟩) hHeld ?_
      rotate_left
      · (intro w hSw; go_simp; (try with_reducible rfl))
      simp only [Act.put, List.getElem_toArray, List.getElem_cons_zero, List.getElem_cons_succ, List.setIfInBounds_toArray, List.set_cons_zero, List.set_cons_succ]
      refine wpAnyH_take (i := 19) (v := ?_) rfl (by kernel_rfl) (by kernel_rfl) (by kernel_rfl) (fun _ _ _ h => h) (Or.inl ⟨by rfl, ?_⟩) hHeld ?_
      rotate_left
      · (intro w hSw; go_simp; (try with_reducible rfl))
      simp only [Act.put, List.getElem_toArray, List.getElem_cons_zero, List.getElem_cons_succ, List.setIfInBounds_toArray, List.set_cons_zero, List.set_cons_succ]
      refine wpAnyH_take (i := 20) (v := ?_) rfl (by kernel_rfl) (by kernel_rfl) (by kernel_rfl) (fun _ _ _ h => h) (Or.inl ⟨by rfl, ?_⟩) hHeld ?_
      rotate_left
      · (intro w hSw; go_simp; (try with_reducible rfl))
      simp only [Act.put, List.getElem_toArray, List.getElem_cons_zero, List.getElem_cons_succ, List.setIfInBounds_toArray, List.set_cons_zero, List.set_cons_succ]
      refine wpAnyH_take (i := 21) (v := ?_) rfl (by kernel_rfl) (by kernel_rfl) (by kernel_rfl) (fun _ _ _ h => h) (Or.inl ⟨by rfl, ?_⟩) hHeld ?_
      rotate_left
      · (intro w hSw; go_simp; (try with_reducible rfl))
      simp only [Act.put, List.getElem_toArray, List.getElem_cons_zero, List.getElem_cons_succ, List.setIfInBounds_toArray, List.set_cons_zero, List.set_cons_succ]
      clear r0 r1 r2 r3 g0 l0 g1 l1 v1 g2 l2 v2 g3 l3 v3
      have hS0 := HS.out.keep (Below.refl wr.heap.size wr).drew
      have hsr : wr.heap.size ≤ wr.drew.heap.size := Nat.le_refl _
      generalize wr.drew = V0 at hHeld hS0 hsr ⊢
      refine wpAnyH_ready (rs := [1, 22]) (by kernel_rfl) (by simp) ?_
      refine AllReadyH.cons rfl (fun K hK => ?_) (AllReadyH.cons rfl (fun K hK => ?_) AllReadyH.nil)
      all_goals simp only [List.getElem_toArray, List.getElem_cons_zero, List.getElem_cons_succ]
      · skip
        have q0 : V0.cell? ⟨P, 4, none⟩ = some (.slice A4 k c4) := by rw [hS0.ev.cell]; rfl
        go_simp
        refine hK.out _ _ hHeld (fun _ => ?_)
        clear hK K
        try simp only [Act.put, List.setIfInBounds_toArray, List.set_cons_zero, List.set_cons_succ]
        clear q0
        refine wpAnyH_ready (rs := [22]) (by kernel_rfl) (by simp) ?_
        refine AllReadyH.cons rfl (fun K hK => ?_) AllReadyH.nil
        simp only [List.getElem_toArray, List.getElem_cons_zero, List.getElem_cons_succ]
        refine wp_buildSlice_eff (.tmp 45) rfl (evC x0 x1 x2 x3 none 0 0) rfl rfl ?_
        have hb7 : Below V0.heap.size V0 (V0.alloc (.cells (evC x0 x1 x2 x3 none 0 0) 65)) := (Below.refl _ _).alloc (Nat.le_refl _) _
        have hX7 : EvAt (V0.alloc (.cells (evC x0 x1 x2 x3 none 0 0) 65)) V0.heap.size (evC x0 x1 x2 x3 none 0 0) := EvAt.new _ _
        have hS7 := hS0.keep hb7
        have hH7 := keepB hb7 hHeld
        generalize hw7 : V0.alloc (.cells (evC x0 x1 x2 x3 none 0 0) 65) = w7 at hb7 hX7 hS7 hH7 ⊢
        clear hw7
        refine hK.out _ _ hH7 (fun _ => ?_)
        clear hK K
        try simp only [Act.put, List.setIfInBounds_toArray, List.set_cons_zero, List.set_cons_succ]
        refine wpAnyH_ready (rs := [23]) (by kernel_rfl) (by simp) ?_
        refine AllReadyH.cons rfl (fun K hK => ?_) AllReadyH.nil
        simp only [List.getElem_toArray, List.getElem_cons_zero, List.getElem_cons_succ]
        refine wp_appE (.tmp 25) (.tmp 46) rfl (P + 1) 1 A4 k c4 (subsN row k) rfl hS7.own V0.heap.size 1 (evC x0 x1 x2 x3 none 0 0) rfl hX7 (.node x0 x1 x2 x3 [])
          ⟨HI5.out.1, HI5.out.2.1, HI5.out.2.2.1, HI5.out.2.2.2, none, 0, rfl, by simp, by unfold maxLen; omega, fun i t hi => by simp at hi⟩ (by omega) (by have := hS7.ev.lt; omega) ?_
        intro A8 c8 w8 hO8 hg8
        obtain ⟨hev8, hfin⟩ := hS7.store hP hO8 hg8
        have q1 : w8.cell? ⟨P, 4, none⟩ = some (.slice A4 k c4) := by rw [hev8.cell]; rfl
        have q2 := frozen_of_row w8 P 4 _ _ hev8
        have hB8 : Below w.heap.size w w8 := hH7.grown hg8 (by have := hH7.size; omega) (fun g hh => by have := hS7.own.ownLt g hh; omega)
        refine hK.out _ _ hB8 (fun _ => ?_)
        clear hK K
        try simp only [Act.put, List.setIfInBounds_toArray, List.set_cons_zero, List.set_cons_succ]
        refine wpAnyH_ready (rs := [24]) (by kernel_rfl) (by simp) ?_
        refine AllReadyH.cons rfl (fun K hK => ?_) AllReadyH.nil
        simp only [List.getElem_toArray, List.getElem_cons_zero, List.getElem_cons_succ]
        go_simp
        refine hK.out _ _ hB8 (fun _ => ?_)
        clear hK K
        try simp only [Act.put, List.setIfInBounds_toArray, List.set_cons_zero, List.set_cons_succ]
        refine wpAnyH_ready (rs := [25]) (by kernel_rfl) (by simp) ?_
        refine AllReadyH.cons rfl (fun K hK => ?_) AllReadyH.nil
        simp only [List.getElem_toArray, List.getElem_cons_zero, List.getElem_cons_succ]
        go_simp
        refine hK.out _ _ (hB8.setCell (by simp; omega) _) (fun _ => ?_)
        clear hK K
        try simp only [Act.put, List.setIfInBounds_toArray, List.set_cons_zero, List.set_cons_succ]
        refine wpAnyH_done (by kernel_rfl) ?_ _
        rw [← HTk.out] at hfin
        have HFin := Lib.hid hfin
        clear q1 q2 hfin hev8 hB8 hO8 hg8
        have hpw : IntKind.i64.wrap ((p : Int) + 4) = (p : Int) + 4 := i64_in (by omega) (by omega)
        go_wp2_with fail
        go_roundw
        case rel => exact ⟨k + 1, p + 4, A8, c8, by go_num, by have := HP.out; omega, by omega, HFin.out⟩
        case measure => simp [intOf]; omega
      · skip
        refine wp_buildSlice_eff (.tmp 45) rfl (evC x0 x1 x2 x3 none 0 0) rfl rfl ?_
        have hb7 : Below V0.heap.size V0 (V0.alloc (.cells (evC x0 x1 x2 x3 none 0 0) 65)) := (Below.refl _ _).alloc (Nat.le_refl _) _
        have hX7 : EvAt (V0.alloc (.cells (evC x0 x1 x2 x3 none 0 0) 65)) V0.heap.size (evC x0 x1 x2 x3 none 0 0) := EvAt.new _ _
        have hS7 := hS0.keep hb7
        have hH7 := keepB hb7 hHeld
        generalize hw7 : V0.alloc (.cells (evC x0 x1 x2 x3 none 0 0) 65) = w7 at hb7 hX7 hS7 hH7 ⊢
        clear hw7
        refine hK.out _ _ hH7 (fun _ => ?_)
        clear hK K
        try simp only [Act.put, List.setIfInBounds_toArray, List.set_cons_zero, List.set_cons_succ]
        refine wpAnyH_ready (rs := [1]) (by kernel_rfl) (by simp) ?_
        refine AllReadyH.cons rfl (fun K hK => ?_) AllReadyH.nil
        simp only [List.getElem_toArray, List.getElem_cons_zero, List.getElem_cons_succ]
        have q0 : w7.cell? ⟨P, 4, none⟩ = some (.slice A4 k c4) := by rw [hS7.ev.cell]; rfl
        go_simp
        refine hK.out _ _ hH7 (fun _ => ?_)
        clear hK K
        try simp only [Act.put, List.setIfInBounds_toArray, List.set_cons_zero, List.set_cons_succ]
        clear q0
        refine wpAnyH_ready (rs := [23]) (by kernel_rfl) (by simp) ?_
        refine AllReadyH.cons rfl (fun K hK => ?_) AllReadyH.nil
        simp only [List.getElem_toArray, List.getElem_cons_zero, List.getElem_cons_succ]
        refine wp_appE (.tmp 25) (.tmp 46) rfl (P + 1) 1 A4 k c4 (subsN row k) rfl hS7.own V0.heap.size 1 (evC x0 x1 x2 x3 none 0 0) rfl hX7 (.node x0 x1 x2 x3 [])
          ⟨HI5.out.1, HI5.out.2.1, HI5.out.2.2.1, HI5.out.2.2.2, none, 0, rfl, by simp, by unfold maxLen; omega, fun i t hi => by simp at hi⟩ (by omega) (by have := hS7.ev.lt; omega) ?_
        intro A8 c8 w8 hO8 hg8
        obtain ⟨hev8, hfin⟩ := hS7.store hP hO8 hg8
        have q1 : w8.cell? ⟨P, 4, none⟩ = some (.slice A4 k c4) := by rw [hev8.cell]; rfl
        have q2 := frozen_of_row w8 P 4 _ _ hev8
        have hB8 : Below w.heap.size w w8 := hH7.grown hg8 (by have := hH7.size; omega) (fun g hh => by have := hS7.own.ownLt g hh; omega)
        refine hK.out _ _ hB8 (fun _ => ?_)
        clear hK K
        try simp only [Act.put, List.setIfInBounds_toArray, List.set_cons_zero, List.set_cons_succ]
        refine wpAnyH_ready (rs := [24]) (by kernel_rfl) (by simp) ?_
        refine AllReadyH.cons rfl (fun K hK => ?_) AllReadyH.nil
        simp only [List.getElem_toArray, List.getElem_cons_zero, List.getElem_cons_succ]
        go_simp
        refine hK.out _ _ hB8 (fun _ => ?_)
        clear hK K
        try simp only [Act.put, List.setIfInBounds_toArray, List.set_cons_zero, List.set_cons_succ]
        refine wpAnyH_ready (rs := [25]) (by kernel_rfl) (by simp) ?_
        refine AllReadyH.cons rfl (fun K hK => ?_) AllReadyH.nil
        simp only [List.getElem_toArray, List.getElem_cons_zero, List.getElem_cons_succ]
        go_simp
        refine hK.out _ _ (hB8.setCell (by simp; omega) _) (fun _ => ?_)
        clear hK K
        try simp only [Act.put, List.setIfInBounds_toArray, List.set_cons_zero, List.set_cons_succ]
        refine wpAnyH_done (by kernel_rfl) ?_ _
        rw [← HTk.out] at hfin
        have HFin := Lib.hid hfin
        clear q1 q2 hfin hev8 hB8 hO8 hg8
        have hpw : IntKind.i64.wrap ((p : Int) + 4) = (p : Int) + 4 := i64_in (by omega) (by omega)
        go_wp2_with fail
        go_roundw
        case rel => exact ⟨k + 1, p + 4, A8, c8, by go_num, by have := HP.out; omega, by omega, HFin.out⟩
        case measure => simp [intOf]; omega
    · obtain rfl : k = m := by omega
      have hd : decide (p < n) = false := by simp; omega
      have hwi := HS.out.own.within (B := wr.heap.size) (Nat.le_refl _)
      have hsl := subsN_len row k
      have hR := Lib.hid (show ReadsQ (fun b => P ≤ b ∧ b < wr.heap.size) wr 2 (evC o x y z A4 k c4) (.node o x y z (subsN row k)) from by
        refine ⟨HI4.out.1, HI4.out.2.1, HI4.out.2.2.1, HI4.out.2.2.2, A4, c4, by rw [hsl], by rw [hsl]; exact hwi.1, hwi.2.1, fun j t hj => ?_⟩
        obtain ⟨g, o, ys, e1, hg, hra, hfz, hrd⟩ := hwi.2.2 j t hj
        exact ⟨g, o, ys, e1, ⟨by omega, hg.2⟩, hra, hfz, hrd.keep (fun _ _ => rfl) (fun b hq => ⟨by omega, hq.2⟩)⟩)
      obtain ⟨cs9, hcs9⟩ : ∃ cs, cs = evC o x y z A4 k c4 := ⟨_, rfl⟩
      have hP9 := HS.out.ev
      have hz9 := HS.out.z
      have hb9 := HS.out.b
      rw [← hcs9] at hP9 hR
      have h19 : cs9.all (·.oneCell') = true := by rw [hcs9]; exact ev_one _ _ _ _ _ _ _
      have hs9 : cs9.size = 5 := by rw [hcs9]; rfl
      have hsx9 : (Tryd.prog.info? 65).map (·.size) = some cs9.size := by rw [hs9]; exact size5
      clear hcs9 hwi hp
      go_wp2_with (first
        | (refine wpList_load_row rfl 65 (.tmp 3) rfl P rfl 65 _ (0, 0) _ hP9 Tryd.underlying65 rfl hsx9 ?_)
        | (refine wpList_store_row rfl 65 (.tmp 2) (.tmp 49) rfl w.heap.size _ rfl rfl 65 zeroE hz9 hsx9 (by rw [hs9]; rfl) h19 ?_))
      refine bodyPost_ret (v := .agg cs9) ?_ rfl ⟨cs9, rfl, by rw [HM.out]; exact hR.out.keep (fun b hq => setRow_other wr _ b _ (by omega)) (fun b hq => ⟨by omega, by simp; exact hq.2⟩), below_setRow hb9 _ _ (by omega)⟩
      exact results_cell_one (ty := 65) (p := 2) (by kernel_rfl) _ _ w.heap.size 65 _ (0, 0) _ rfl (setRow_heap _ _ _ _ _ _ hz9) Tryd.underlying65 rfl hsx9
end Go.Proofs.YtplfblccaeligaaDoor
