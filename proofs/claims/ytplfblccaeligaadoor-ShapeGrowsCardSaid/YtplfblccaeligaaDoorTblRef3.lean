/- Layer 8: the reference's Card: its state, and the plainest cards. -/
import Derived.Test.YtplfblccaeligaaDoorTblRef2
namespace Go.Proofs.YtplfblccaeligaaDoor
open Go.RowKit Ex Mx
namespace Ex
abbrev colour5 : CardT := ⟨0, 5, false, noC, 0, 0, 0, []⟩
def pairs8 (k : Nat) : Int := [1, 1, 2, 2, 3, 3, 4, 4].getD k 0
def tough8 (k : Nat) : Int := [1, 2, 2, 3, 3, 4, 4, 5].getD k 0
def says8 (k : Nat) : Int := [1, 2, 4, 8, 16, 32, 64, 128].getD k 0
/-- The ability of a Beast of this colour. -/
def beastA (c k : Nat) : List AbT :=
  if c = 0 then [⟨2, noC, false, 0, .node 2 (k + 1) 0 0 []⟩]
  else if c = 1 then (if k % 2 = 0 then [] else [⟨2, noC, false, 0, .node 4 1 0 0 []⟩])
  else if c = 2 then [⟨3, noC, false, 0, .node 3 (pairs8 k) 0 1 []⟩]
  else if c = 3 then [⟨1, updI noC 3 1, true, 3, .node 1 1 0 2 []⟩]
  else [⟨1, updI noC 4 1, false, 0, .node 10 1 1 3 []⟩]
/-- The card of a number. -/
def tblC (n : Nat) : CardT :=
  if n < 5 then ⟨0, n, false, noC, 0, 0, 0, [giveA 1 n]⟩
  else if n < 10 then ⟨0, 5, false, noC, 0, 0, 0, [⟨2, noC, false, 0, .node 3 ((n - 4 : Nat) : Int) 0 0 []⟩, giveA ([1, 1, 2, 2, 3].getD (n - 5) 0) 5]⟩
  else if n < 50 then ⟨1, ((n % 5 : Nat) : Int), false, updI (updI noC (n % 5) (if 3 < (n - 10) / 5 then 2 else 1)) 5 (((n - 10) / 5 : Nat) : Int),
    pairs8 ((n - 10) / 5) + (if n % 5 = 3 then 1 else 0), tough8 ((n - 10) / 5) + (if n % 5 = 4 then 1 else 0), says8 ((n - 10) / 5), beastA (n % 5) ((n - 10) / 5)⟩
  else if n < 80 then ⟨2, ((n % 5 : Nat) : Int), (n - 50) / 5 % 2 == 0, updI (updI noC (n % 5) 1) 5 (((n - 50) / 5 : Nat) : Int), 0, 0, 0,
    [⟨0, noC, false, (magicL.getD (n - 50) []).getD 0 0, effL ((magicL.getD (n - 50) []).drop 1)⟩]⟩
  else if n < 100 then ⟨3, ((n % 5 : Nat) : Int), false, updI (updI noC (n % 5) 1) 5 (((n - 80) / 5 + 1 : Nat) : Int), 0, 0, 0, [abL (relicL.getD (n - 80) [])]⟩
  else if n < 112 then ⟨(specialL.getD (n - 100) []).getD 0 0, 5, (specialL.getD (n - 100) []).getD 2 0 == 1, updI noC 5 ((specialL.getD (n - 100) []).getD 1 0), (specialL.getD (n - 100) []).getD 3 0,
    (specialL.getD (n - 100) []).getD 4 0, (specialL.getD (n - 100) []).getD 5 0, abL ((specialL.getD (n - 100) []).drop 6) :: (if n = 108 then [giveA 2 5] else [])⟩
  else ⟨1, 5, false, noC, pairs8 (n - 112), pairs8 (n - 112), ((n % 2 : Nat) : Int), []⟩
theorem getD_in {l : List Int} (h : ∀ x ∈ l, -9223372036854775808 ≤ x ∧ x ≤ 9223372036854775807) (k : Nat) : In64 (l.getD k 0) := by
  rw [List.getD_eq_getElem?_getD]
  by_cases e : k < l.length
  · rw [List.getElem?_eq_getElem e]; exact h _ (List.getElem_mem e)
  · rw [List.getElem?_eq_none (by omega)]; exact ⟨by decide, by decide⟩
theorem pairs8_in (k : Nat) : In64 (pairs8 k) := getD_in (by decide) k
theorem tough8_in (k : Nat) : In64 (tough8 k) := getD_in (by decide) k
theorem says8_in (k : Nat) : In64 (says8 k) := getD_in (by decide) k
end Ex
/-- The result's box and the card's. -/
structure FS (w : World) (P : Nat) (c : CardT) (A : Option Addr) (k cc : Nat) (W : World) : Prop where
  cd : CdAt W P (cardC c A k cc)
  z : CdAt W w.heap.size zeroD
  b : Below w.heap.size w W
  lt : w.heap.size < P
section
variable {w W W' : World} {P k cc : Nat} {c : CardT} {A : Option Addr}
theorem FS.keep (h : FS w P c A k cc W) (hb : Below W.heap.size W W') : FS w P c A k cc W' := ⟨h.cd.keep hb, h.z.keep hb, keepB hb h.b, h.lt⟩
theorem FS.set_ (h : FS w P c A k cc W) (i : Nat) (v : Value) {c' : CardT} {A' : Option Addr} {k' cc' : Nat} (he : (cardC c A k cc).setIfInBounds i v = cardC c' A' k' cc') : FS w P c' A' k' cc' (W.setCell ⟨P, i, none⟩ v) :=
  ⟨by have := heap_setCell_same W P i _ _ v h.cd; rw [he] at this; exact this, (heap_setCell_other W ⟨P, i, none⟩ _ v (by have := h.lt; simp; omega)).trans h.z, h.b.setCell (by have := h.lt; simp; omega) v, h.lt⟩
theorem FS.frozen (h : FS w P c A k cc W) (i : Nat) : W.frozen? ⟨P, i, none⟩ = false := frozen_of_row W P i _ _ h.cd
theorem FS.kind (h : FS w P c A k cc W) : W.cell? ⟨P, 0, none⟩ = some (.int .i64 c.kind) := by rw [h.cd.cell]; exact cd_kind
theorem FS.colour (h : FS w P c A k cc W) : W.cell? ⟨P, 1, none⟩ = some (.int .i64 c.colour) := by rw [h.cd.cell]; exact cd_colour
theorem FS.fast (h : FS w P c A k cc W) : W.cell? ⟨P, 2, none⟩ = some (.bool c.fast) := by rw [h.cd.cell]; exact cd_fast
theorem FS.power (h : FS w P c A k cc W) : W.cell? ⟨P, 9, none⟩ = some (.int .i64 c.power) := by rw [h.cd.cell]; exact cd_power
theorem FS.tough (h : FS w P c A k cc W) : W.cell? ⟨P, 10, none⟩ = some (.int .i64 c.tough) := by rw [h.cd.cell]; exact cd_tough
theorem FS.says (h : FS w P c A k cc W) : W.cell? ⟨P, 11, none⟩ = some (.int .i64 c.says) := by rw [h.cd.cell]; exact cd_says
theorem FS.abs (h : FS w P c A k cc W) : W.cell? ⟨P, 12, none⟩ = some (.slice A k cc) := by rw [h.cd.cell]; exact cd_abs
theorem FS.size (_ : FS w P c A k cc W) : (cardC c A k cc).size = 13 := by simp [cardC, arr_size]
end
theorem card_one (c : CardT) (A : Option Addr) (k cc : Nat) : (cardC c A k cc).all (·.oneCell') = true := by
  have h2 := arr_one .i64 6 c.cost
  simp only [cardC, Array.all_append, h2]; simp [Value.oneCell']
theorem in_0 : In64 0 := ⟨by decide, by decide⟩
theorem in_1 : In64 1 := ⟨by decide, by decide⟩
theorem in_2 : In64 2 := ⟨by decide, by decide⟩
theorem in_3 : In64 3 := ⟨by decide, by decide⟩
theorem in_5 : In64 5 := ⟨by decide, by decide⟩
theorem set_kind (c : CardT) (A : Option Addr) (k cc : Nat) (x : Int) : (cardC c A k cc).setIfInBounds 0 (.int .i64 x) = cardC { c with kind := x } A k cc := by unfold cardC; rw [arr6]; rfl
theorem set_colour (c : CardT) (A : Option Addr) (k cc : Nat) (x : Int) : (cardC c A k cc).setIfInBounds 1 (.int .i64 x) = cardC { c with colour := x } A k cc := by unfold cardC; rw [arr6]; rfl
theorem set_fast (c : CardT) (A : Option Addr) (k cc : Nat) (x : Bool) : (cardC c A k cc).setIfInBounds 2 (.bool x) = cardC { c with fast := x } A k cc := by unfold cardC; rw [arr6]; rfl
theorem set_power (c : CardT) (A : Option Addr) (k cc : Nat) (x : Int) : (cardC c A k cc).setIfInBounds 9 (.int .i64 x) = cardC { c with power := x } A k cc := by unfold cardC; rw [arr6]; rfl
theorem set_tough (c : CardT) (A : Option Addr) (k cc : Nat) (x : Int) : (cardC c A k cc).setIfInBounds 10 (.int .i64 x) = cardC { c with tough := x } A k cc := by unfold cardC; rw [arr6]; rfl
theorem set_says (c : CardT) (A : Option Addr) (k cc : Nat) (x : Int) : (cardC c A k cc).setIfInBounds 11 (.int .i64 x) = cardC { c with says := x } A k cc := by unfold cardC; rw [arr6]; rfl
theorem set_list (c : CardT) (A A' : Option Addr) (k cc k' cc' : Nat) (l : List AbT) : (cardC c A k cc).setIfInBounds 12 (.slice A' k' cc') = cardC { c with abs := l } A' k' cc' := (cd_set c A A' k cc k' cc').trans rfl
theorem set_cost (c : CardT) (A : Option Addr) (k cc j : Nat) (hj : j < 6) (x : Int) : (cardC c A k cc).setIfInBounds (3 + j) (.int .i64 x) = cardC { c with cost := updI c.cost j x } A k cc := by
  unfold cardC
  rw [arr6, arr6]
  match j, hj with
  | 0, _ => simp [updI]
  | 1, _ => simp [updI]
  | 2, _ => simp [updI]
  | 3, _ => simp [updI]
  | 4, _ => simp [updI]
  | 5, _ => simp [updI]
/-- One ability in a block of its own. -/
theorem one_ab {Q : Nat → Prop} {W : World} {G d : Nat} {ys : Array Value} {a : AbT} (h : AbAt W G ys) (hr : ReadsAQ Q W d ys a) (hq : Q G) : RdAQ Q W d (some ⟨G, 0, none⟩) [a] := fun i x hi => by
  cases i with
  | zero =>
    simp at hi
    subst hi
    exact ⟨G, 0, ys, rfl, hq, ⟨_, h⟩, by simpa using h.range, hr⟩
  | succ i => simp at hi
theorem no_ab {Q : Nat → Prop} {W : World} {d : Nat} {A : Option Addr} : RdAQ Q W d A [] := fun i x hi => by simp at hi
abbrev lit5 : Array Value := #[.int .i64 0, .int .i64 5, .bool false, .int .i64 0, .int .i64 0, .int .i64 0, .int .i64 0, .int .i64 0, .int .i64 0, .int .i64 0, .int .i64 0, .int .i64 0, .slice none 0 0]
theorem lit5_card : lit5 = cardC colour5 none 0 0 := by unfold cardC; rw [arr6]; rfl
theorem get_getD {l : List Int} {q : Nat} (h : q < l.length) : l[q]? = some (l.getD q 0) := by
  rw [List.getElem?_eq_getElem h, List.getD_eq_getElem?_getD, List.getElem?_eq_getElem h]; rfl
/-- A list of literals is built: its cells. -/
theorem wpList_lits {ops : Array Oper} {rest : List Oper} {o : Oper} {a : Act} {w : World} {Q : Exit → Act → World → Prop} (hg : o.guard = none) {n : Nat} {ps : Array (Nat × Operand)}
    (ho : o.op = .buildSlice 23 n ps) (hev : ∀ ρ : Operand → Value, (∀ v, ρ (.const v) = v) → (ps.map fun (i, x) => (i, ρ x)) = ps.map fun (i, x) => (i, litV x)) (hn : (rowOf ps).length = n)
    (hrun : ∀ W, (Instr.buildSlice 23 n (ps.map fun (i, x) => (i, litV x))).run Tryd.prog W = .ok (.slice (some ⟨W.heap.size, 0, none⟩) n n) (W.alloc (.cells ((rowOf ps).map (Value.int .i64)).toArray 3)))
    (hK : ∀ w', Below w.heap.size w w' → (∀ q, q < n → w'.cell? ⟨w.heap.size, q, none⟩ = some (.int .i64 ((rowOf ps).getD q 0))) → wpList Tryd.prog ops Q rest (a.put o.dst (.slice (some ⟨w.heap.size, 0, none⟩) n n)) w') :
    wpList Tryd.prog ops Q (o :: rest) a w :=
  wpList_row hg ho hev hn hrun (Nat.zero_le _) (RowsAcc.nil w 0) fun w' hb hacc => hK w' hb fun q hq => by
    obtain ⟨b, _, e, hN⟩ := hacc.2 0 (rowOf ps) _ rfl rfl
    injection e with e1
    injection e1 with e1
    injection e1 with e1
    subst e1
    obtain ⟨a', e2, _, hc⟩ := hN.2 q _ (get_getD (by omega))
    injection e2 with e2
    subst e2
    rw [Addr.add_mid, Nat.zero_add] at hc
    exact hc
/-- What Card answers: the card of that number, in blocks of its own. -/
def CardQ (c : CardT) (v : Value) (w : World) (e : Ending) (w' : World) : Prop := ∃ cs, e = .returned (.tuple #[.agg cs, v]) ∧ ReadsCQ (fun b => w.heap.size ≤ b ∧ b < w'.heap.size) w' 2 cs c ∧ Below w.heap.size w w'
theorem FS.reads {w W : World} {P cc : Nat} {c : CardT} {A : Option Addr} (_ : FS w P c A c.abs.length cc W) (cs : Array Value) (h1 : In64 c.kind) (h2 : In64 c.colour) (h3 : Wide c.cost) (h4 : In64 c.power) (h5 : In64 c.tough) (h6 : In64 c.says)
    (hl : c.abs.length ≤ cc) (hc : cc ≤ maxLen) (hx : RdAQ (fun b => w.heap.size < b ∧ b < W.heap.size) W 2 A c.abs) :
    ReadsCQ (fun b => w.heap.size ≤ b ∧ b < (W.setRow w.heap.size cs).heap.size) (W.setRow w.heap.size cs) 2 (cardC c A c.abs.length cc) c :=
  ⟨h1, h2, h3, h4, h5, h6, A, cc, rfl, hl, hc, hx.keep (fun b hq => setRow_other _ _ _ _ (by omega)) (fun b hq => ⟨by omega, by rw [setRow_size]; exact hq.2⟩)⟩
/-- An ability without effects within. -/
theorem flat_reads {Q : Nat → Prop} {W : World} (wh tg o x y z : Int) (f : Nat → Int) (tp : Bool) (h1 : In64 wh) (h2 : Wide f) (h3 : In64 tg) (h4 : In64 o) (h5 : In64 x) (h6 : In64 y) (h7 : In64 z) :
    ReadsAQ Q W 2 (abC ⟨wh, f, tp, tg, .node o x y z []⟩ (evC o x y z none 0 0)) ⟨wh, f, tp, tg, .node o x y z []⟩ :=
  ⟨h1, h2, h3, _, rfl, h4, h5, h6, h7, none, 0, rfl, Nat.le_refl _, by unfold maxLen; omega, fun i t hi => by simp at hi⟩
/-- Two abilities in a block of their own. -/
theorem two_ab {Q : Nat → Prop} {W : World} {G d : Nat} {ys zs : Array Value} {a b : AbT} (h : AbAt W G (ys ++ zs)) (hr : ReadsAQ Q W d ys a) (hs : ReadsAQ Q W d zs b) (hq : Q G) : RdAQ Q W d (some ⟨G, 0, none⟩) [a, b] := fun i x hi => by
  have hz := hr.size
  match i, hi with
  | 0, hi =>
    simp at hi
    subst hi
    refine ⟨G, 0, ys, rfl, hq, ⟨_, h⟩, fun j v hv => h.range j v ?_, hr⟩
    rw [Array.toList_append, List.getElem?_append_left (List.getElem?_eq_some_iff.1 hv).1]; exact hv
  | 1, hi =>
    simp at hi
    subst hi
    refine ⟨G, 0, zs, rfl, hq, ⟨_, h⟩, fun j v hv => ?_, hs⟩
    have := h.range (14 + j) v (by rw [Array.toList_append, List.getElem?_append_right (by rw [Array.length_toList]; omega), Array.length_toList, hz, Nat.add_sub_cancel_left]; exact hv)
    rw [Nat.zero_add] at this
    rw [show 0 * 14 + 1 * 14 + j = 14 + j by omega]
    exact this
set_option linter.unusedSimpArgs false in
set_option maxRecDepth 100000 in
set_option maxHeartbeats 1000000 in
theorem cardRef_tok (n : Nat) (w : World) (h0 : 112 ≤ n) (h1 : n < 120) : Calls Tryd.prog 22 #[.int .i64 (n : Int)] w (CardQ (tblC n) (.bool true) w) := by
  have d0 : decide ((n : Int) < 0) = false := by simp
  have d1 : decide ((119 : Int) < (n : Int)) = false := by simp; omega
  have d2 : decide ((n : Int) < 5) = false := by simp; omega
  have d3 : decide ((n : Int) < 10) = false := by simp; omega
  have d4 : decide ((n : Int) < 50) = false := by simp; omega
  have d5 : decide ((n : Int) < 80) = false := by simp; omega
  have d6 : decide ((n : Int) < 100) = false := by simp; omega
  have d7 : decide ((n : Int) < 112) = false := by simp; omega
  go_enter Tryd.func22, Tryd.ntmps22
  go_upto_region 4 with fail
  obtain ⟨w1, hw1⟩ : ∃ w1, w1 = (w.alloc (.cells zeroD 55)).alloc (.cells lit5 55) := ⟨_, rfl⟩
  have HS1 := Lib.hid (show FS w (w.heap.size + 1) colour5 none 0 0 w1 from by
    rw [hw1]
    refine ⟨?_, ?_, ((Below.refl _ _).alloc (Nat.le_refl _) _).alloc (by simp) _, Nat.lt_succ_self _⟩
    · have := CdAt.new (w.alloc (.cells zeroD 55)) lit5
      rw [← lit5_card]
      simpa using this
    · exact (CdAt.new w zeroD).keep ((Below.refl _ _).alloc (Nat.le_refl _) _))
  rw [← hw1]
  clear hw1
  obtain ⟨P, hP⟩ : ∃ P, P = w.heap.size + 1 := ⟨_, rfl⟩
  rw [← hP] at HS1 ⊢
  clear hP
  go_upto_region 51 with fail
  clear d0 d1 d2 d3 d4 d5 d6 d7
  have f0 := HS1.out.frozen 0
  have k0 := HS1.out.kind
  go_upto_region 52 with fail
  obtain ⟨w2, hW⟩ : ∃ W, W = w1.setCell ⟨P, 0, none⟩ (.int .i64 1) := ⟨_, rfl⟩
  have HS2 := Lib.hid (show FS w P { colour5 with kind := 1 } none 0 0 w2 by rw [hW]; exact HS1.out.set_ 0 _ (set_kind _ _ _ _ _))
  rw [← hW]
  clear hW f0 k0 HS1
  obtain ⟨q, hq⟩ : ∃ q, q = n - 112 := ⟨_, rfl⟩
  have v1 : IntKind.i64.wrap ((n : Int) - 112) = (q : Int) := by rw [i64_in (by omega) (by omega)]; omega
  have g0 : (0 : Int) ≤ (q : Int) := by omega
  have g1 : (q : Int) < 8 := by omega
  have hq8 : q < 8 := by omega
  have HQ := Lib.hid hq
  clear hq
  go_upto_region 53 with (refine wpList_lits rfl rfl (fun ρ h => by simp only [List.map_toArray, List.map_cons, List.map_nil, h, litV]) rfl (fun _ => by kernel_rfl) ?_; intro w' hb' hc'; have HS3 := Lib.hid (HS2.out.keep hb'); have q0 : w'.cell? ⟨w2.heap.size, q, none⟩ = some (.int .i64 (pairs8 q)) := hc' q hq8; clear hc'; have f4 := HS3.out.frozen 9; have k4 := HS3.out.power)
  obtain ⟨w4, hW⟩ : ∃ W, W = w'.setCell ⟨P, 9, none⟩ (.int .i64 (pairs8 q)) := ⟨_, rfl⟩
  have HS4 := Lib.hid (show FS w P ⟨1, 5, false, noC, pairs8 q, 0, 0, []⟩ none 0 0 w4 by rw [hW]; exact HS3.out.set_ 9 _ (set_power _ _ _ _ _))
  rw [← hW]
  clear hW f4 k4 q0 HS2 HS3 v1 g0 g1
  have k4 : w4.cell? ⟨P, 9, none⟩ = some (.int .i64 (pairs8 q)) := HS4.out.power
  have k5 : w4.cell? ⟨P, 10, none⟩ = some (.int .i64 0) := HS4.out.tough
  have k6 : w4.cell? ⟨P, 11, none⟩ = some (.int .i64 0) := HS4.out.says
  have f5 := HS4.out.frozen 10
  have f6 := HS4.out.frozen 11
  have r2 : (n : Int).tmod 2 = ((n % 2 : Nat) : Int) := by rw [Int.tmod_eq_emod_of_nonneg (by omega)]; omega
  go_upto_region 54 with fail
  obtain ⟨w5, hW⟩ : ∃ W, W = (w4.setCell ⟨P, 10, none⟩ (.int .i64 (pairs8 q))).setCell ⟨P, 11, none⟩ (.int .i64 ((n : Int) % 2)) := ⟨_, rfl⟩
  have HS5 := Lib.hid (show FS w P ⟨1, 5, false, noC, pairs8 q, pairs8 q, (n : Int) % 2, []⟩ none 0 0 w5 by rw [hW]; exact ((HS4.out.set_ 10 _ (set_tough _ _ _ _ _)).set_ 11 _ (set_says _ _ _ _ _)))
  rw [← hW]
  clear hW k4 k5 k6 f5 f6 r2 HS4
  have hz9 := HS5.out.z
  have hb9 := HS5.out.b
  have hP9 := HS5.out.cd
  have hlt9 := HS5.out.lt
  have hs9 := HS5.out.size
  have hsx9 : (Tryd.prog.info? 55).map (·.size) = some (cardC ⟨1, 5, false, noC, pairs8 q, pairs8 q, (n : Int) % 2, []⟩ none 0 0).size := by rw [hs9]; exact size13
  have h19 : (cardC ⟨1, 5, false, noC, pairs8 q, pairs8 q, (n : Int) % 2, []⟩ none 0 0).all (·.oneCell') = true := card_one _ _ _ _
  go_wp2_with (first
    | (refine wpList_load_row rfl 55 (.tmp 4) rfl P rfl 55 _ (0, 0) _ hP9 Tryd.underlying55 rfl hsx9 ?_)
    | (refine wpList_store_row rfl 55 (.tmp 2) (.tmp 238) rfl w.heap.size _ rfl rfl 55 zeroD hz9 hsx9 (by rw [hs9]; rfl) h19 ?_))
  refine bodyPost_ret (v := .tuple #[.agg (cardC ⟨1, 5, false, noC, pairs8 q, pairs8 q, (n : Int) % 2, []⟩ none 0 0), .bool true]) ?_ rfl ⟨_, rfl, ?_, below_setRow hb9 _ _ (Nat.le_refl _)⟩
  · exact results_cell_tmp (ty := 55) (p := 2) (q := 3) (by kernel_rfl) _ _ w.heap.size 55 _ (0, 0) _ rfl (setRow_heap _ _ _ _ _ _ hz9) Tryd.underlying55 rfl hsx9
  rw [show tblC n = ⟨1, 5, false, noC, pairs8 q, pairs8 q, (n : Int) % 2, []⟩ by
    unfold tblC
    rw [if_neg (by omega), if_neg (by omega), if_neg (by omega), if_neg (by omega), if_neg (by omega), if_neg (by omega), ← HQ.out, show ((n % 2 : Nat) : Int) = (n : Int) % 2 by omega]]
  exact FS.reads HS5.out _ in_1 in_5 wide_no (pairs8_in q) (pairs8_in q) ⟨by show _ ≤ (n : Int) % 2; omega, by show (n : Int) % 2 ≤ _; omega⟩ (Nat.le_refl _) (by unfold maxLen; omega) no_ab
end Go.Proofs.YtplfblccaeligaaDoor
