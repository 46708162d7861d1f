/- Layer 12: a state in blocks of the call's own, each list in one of its own: may be written into and appended to. Layer 12: mulligannum's Copy, with what is the call's own. Layer 10: which two states are the same; comparing players. Layer 9: what the calls on lists are to answer. Layer 12: events as plain data, and what they do: plain facts. Layer 12: what an event does: sizes, errors. A region that draws its order, with calls that make memory: the condition on the world may be turned behind each call. Layer 12: the reference's Invert. Layer 12: the reference's Check, Invert. Layer 10: a state's box, loaded whole; what is not long. Layer 10: two boxes with states, side by side. Layer 10: objects, appended to. append of any slice of numbers, with where it lies then. Over any program. Layer 12: a state that an event changes, in the making. Layer 2: the bytes of numbers and lists, and what bytes tell: plain facts, without the program. An error, by its number. Layer 12: what event's seven calls answer, as one statement: the laws' walks take it, the code's walks prove it. -/
import Derived.Test.YthedopnhhanknaaEvG1
import Derived.Deep.RegionHeld3
import Derived.Below
import Derived.Deep.Cut
import Derived.WalkMore
import Derived.OneCell
import Derived.WalkKit
import Derived.Laws.BytesArg
import Derived.Lib.BitFns
import Derived.Test.YthedopnhhanknaaRows
namespace Go.Proofs.Ythedopnhhanknaa
open Go.RowKit Ex
set_option maxRecDepth 100000
/-- A state's slices are the call's own. -/
structure OwnS (W : World) (base : Nat) (s : StT) (O : SlT) (L : Nat → SlT) : Prop where
  on : O.n = s.objs.length
  o : W.ownsRow base 61 18 O.v O.n (flatO s.objs)
  l : ∀ z < 11, Own .i64 3 W base (L z).A (L z).n (L z).c (s.lists z)
  d : ∀ y < 11, ∀ z < 11, y ≠ z → ∀ j, (L y).v.ownBlock = some j → (L z).v.ownBlock ≠ some j
section
variable {W W' : World} {base : Nat} {s : StT} {O : SlT} {L : Nat → SlT}
theorem owns_keep {v : Value} {e : TypeId} {k n : Nat} {xs : List Value} (h : W.ownsRow base e k v n xs) (hb : ∀ j, v.ownBlock = some j → W'.heap[j]? = W.heap[j]?) : W'.ownsRow base e k v n xs := by
  refine ⟨h.1, ?_⟩
  rcases h.2 with hv | ⟨g, cap, cur, hv, hbs, hg, rest⟩
  · exact .inl hv
  · exact .inr ⟨g, cap, cur, hv, hbs, (hb g (by rw [hv]; rfl)).trans hg, rest⟩
theorem OwnS.keep (h : OwnS W base s O L) (hb : ∀ j, base ≤ j → j < W.heap.size → W'.heap[j]? = W.heap[j]?) : OwnS W' base s O L :=
  ⟨h.on, owns_keep h.o fun j hj => hb j (h.o.lt j hj).1 (h.o.lt j hj).2, fun z hz => ⟨(h.l z hz).1, owns_keep (h.l z hz).2 fun j hj => hb j ((h.l z hz).2.lt j hj).1 ((h.l z hz).2.lt j hj).2⟩, h.d⟩
theorem OwnS.below (h : OwnS W base s O L) (hb : Below W.heap.size W W') : OwnS W' base s O L := h.keep fun j _ hj => hb.block j hj
theorem OwnS.reads (h : OwnS W base s O L) (ho : ∀ o ∈ s.objs, ∀ i < 18, N64 (o i)) (hl : ∀ z < 11, ∀ n ∈ s.lists z, N64 n) (hp : ∀ i < 18, N64 (s.pl i)) (hg : ∀ i < 7, N64 (s.gm i)) : ReadsS W.heap.size W (stC O L s.pl s.gm) s O L := by
  obtain ⟨A, c, e, hs⟩ := slO_of_own h.o h.on
  obtain ⟨A', n', c'⟩ := O
  injection e with e1 _ e3
  subst e1 e3
  exact ⟨rfl, h.on, hs.c, hs.m, hs.R, fun z hz => (h.l z hz).nums, fun z hz => (h.l z hz).cap, ho, hl, hp, hg⟩
theorem OwnS.low (h : OwnS W base s O L) {b : Nat} (hb : b ≤ base) : OwnS W b s O L := by
  refine ⟨h.on, ⟨h.o.1, ?_⟩, fun z hz => (h.l z hz).base_le hb, h.d⟩
  rcases h.o.2 with hv | ⟨g, cap, cur, hv, hbs, rest⟩
  · exact .inl hv
  · exact .inr ⟨g, cap, cur, hv, Nat.le_trans hb hbs, rest⟩
end
/-- What a copy answers: the same state, in blocks of its own. -/
def CopyO (w : World) (s : StT) (cs : Array Value) (W : World) : Prop := ∃ O L, cs = stC O L s.pl s.gm ∧ OwnS W w.heap.size s O L ∧ Below w.heap.size w W
/-- A box in the making: the first k lists are copied. -/
structure CpO (w : World) (g base : Nat) (s : StT) (L0 : Nat → SlT) (O : SlT) (L : Nat → SlT) (k : Nat) (W : World) : Prop where
  b : Below w.heap.size w W
  r : ∀ z, k ≤ z → L z = L0 z
  a : StAt W g (stC O L s.pl s.gm)
  on : O.n = s.objs.length
  o : W.ownsRow base 61 18 O.v O.n (flatO s.objs)
  l : ∀ z, z < k → Own .i64 3 W base (L z).A (L z).n (L z).c (s.lists z)
  d : ∀ y, y < k → ∀ z, z < k → y ≠ z → ∀ j, (L y).v.ownBlock = some j → (L z).v.ownBlock ≠ some j
section
variable {w : World} {g base : Nat} {s : StT} {O : SlT} {L0 L : Nat → SlT} {k : Nat} {W W' : World}
theorem CpO.keep (h : CpO w g base s L0 O L k W) (hb : Below W.heap.size W W') : CpO w g base s L0 O L k W' :=
  ⟨keepB hb h.b, h.r, h.a.keep hb, h.on, owns_keep h.o fun j hj => hb.block j (h.o.lt j hj).2, fun z hz => (h.l z hz).below hb (Nat.le_refl _), h.d⟩
theorem CpO.next (h : CpO w g base s L0 O L k W) (hk : k < 11) (hwg : w.heap.size ≤ g) (hg : g < base) {x : SlT} (hx : Own .i64 3 W base x.A x.n x.c (s.lists k)) (hd : ∀ y, y < k → ∀ j, (L y).v.ownBlock = some j → x.v.ownBlock ≠ some j) :
    CpO w g base s L0 O (updS L k x) (k + 1) (W.setCell ⟨g, 1 + k, none⟩ x.v) := by
  have hb : ∀ j, base ≤ j → (W.setCell ⟨g, 1 + k, none⟩ x.v).heap[j]? = W.heap[j]? := fun j hj => heap_setCell_other W ⟨g, 1 + k, none⟩ j _ (by simp; omega)
  have hown : ∀ {A n c l}, Own .i64 3 W base A n c l → Own .i64 3 (W.setCell ⟨g, 1 + k, none⟩ x.v) base A n c l := fun h => ⟨h.1, owns_keep h.2 fun j hj => hb j (h.2.lt j hj).1⟩
  refine ⟨h.b.setCell (by simpa using hwg) _, fun z hz => (if_neg (by omega)).trans (h.r z (by omega)), ?_, h.on, owns_keep h.o fun j hj => hb j (h.o.lt j hj).1, fun z hz => ?_, fun y hy z hz hne j hj => ?_⟩
  · unfold StAt
    rw [heap_setCell_same W g (1 + k) _ _ _ h.a, stC_set_list _ _ _ _ _ hk]
  · by_cases e : z = k
    · subst e; simp only [updS, if_pos]; exact hown hx
    · simp only [updS, if_neg e]; exact hown (h.l z (by omega))
  · by_cases ey : y = k
    · subst ey
      simp only [updS, if_pos] at hj
      have hzy : ¬ z = y := fun e => hne e.symm
      simp only [updS, if_neg hzy]
      intro h2
      exact hd z (by omega) j h2 hj
    · simp only [updS, if_neg ey] at hj
      by_cases ez : z = k
      · subst ez
        simp only [updS, if_pos]
        exact hd y (by omega) j hj
      · simp only [updS, if_neg ez]
        exact h.d y (by omega) z (by omega) hne j hj
theorem CpO.start {O1 : SlT} (hb : Below w.heap.size w W) (ha : StAt W g (stC O1 L0 s.pl s.gm)) (hwg : w.heap.size ≤ g) (hg : g < base) (hn : O.n = s.objs.length) (ho : W.ownsRow base 61 18 O.v O.n (flatO s.objs)) : CpO w g base s L0 O L0 0 (W.setCell ⟨g, 0, none⟩ O.v) := by
  refine ⟨hb.setCell (by simpa using hwg) _, fun _ _ => rfl, ?_, hn, owns_keep ho fun j hj => heap_setCell_other W ⟨g, 0, none⟩ j _ (by have := (ho.lt j hj).1; simp; omega), fun z hz => absurd hz (by omega), fun y hy => absurd hy (by omega)⟩
  unfold StAt
  rw [heap_setCell_same W g 0 _ _ _ ha, stC_set_objs]
theorem CpO.copy (h : CpO w g base s L0 O L 11 W) {r : Nat} (hr : w.heap.size ≤ r) (hrg : r < base) : CopyO w s (stC O L s.pl s.gm) (W.setRow r (stC O L s.pl s.gm)) := by
  have hb : ∀ b, base ≤ b → (W.setRow r (stC O L s.pl s.gm)).heap[b]? = W.heap[b]? := fun b hb => setRow_other W r b _ (by omega)
  have ho : OwnS W base s O L := ⟨h.on, h.o, fun z hz => h.l z hz, fun y hy z hz => h.d y hy z hz⟩
  exact ⟨O, L, rfl, (ho.keep fun j hj _ => hb j hj).low (by omega), below_setRow h.b r _ hr⟩
end
/-- append of any objects to none: with the row that is the call's own. -/
theorem wpList_appOw {ops : Array Oper} {rest : List Oper} {o : Oper} {a : Act} {w : World} {Q : Exit → Act → World → Prop} (hgd : o.guard = none) (s x : Operand)
    (ho : o.op = .call { callee := .builtin .append, args := #[s, x], argTypes := #[22, 22] })
    (base : Nat) (A : Option Addr) (c : Nat) (hs : a.eval s = .slice A 0 c) (h : w.ownsRow base 61 18 (.slice A 0 c) 0 [])
    (B : Nat) (A2 : Option Addr) (m c2 : Nat) (l : List (Nat → Int)) (hx : a.eval x = .slice A2 m c2) (hr : RdO B w A2 l) (hl : m = l.length) (hn : m ≤ 1000000) (hbase : base ≤ w.heap.size)
    (hK : ∀ A' c' w', w'.ownsRow base 61 18 (.slice A' m c') m (flatO l) → w.grownBy w' (Value.slice A 0 c).ownBlock → wpList Try.prog ops Q rest (a.put o.dst (.slice A' m c')) w') :
    wpList Try.prog ops Q (o :: rest) a w := by
  obtain ⟨i0, hi, hz0, hz1, hz2⟩ := info_parts info_obj
  rcases A2 with _ | ad
  · have hl0 : l = [] := by
      cases l with
      | nil => rfl
      | cons y r => obtain ⟨b, off, e, _⟩ := hr 0 y rfl; cases e
    subst hl0
    obtain rfl : m = 0 := hl
    have hrun : (Builtin.append_ #[22, 22] o.type #[.slice A 0 c, .slice none 0 c2]).run Try.prog w = .ok (.slice A 0 c) w := by
      rcases h.2 with ⟨hv, _⟩ | ⟨g, cap, cur, hv, _, _, hnc, _⟩
      · rw [hv]
        simp [Builtin.append_, run_underlying Try.underlying22, sizeOf, typeInfo, hi, Builtin.lenOf, Builtin.firstCells]
      · rw [hv]
        simp [Builtin.append_, run_underlying Try.underlying22, sizeOf, typeInfo, hi, Builtin.lenOf, Builtin.firstCells, hnc, storeCells]
    refine wpList_plain hgd fun K hK' => ?_
    unfold Oper.wp execOp
    simp only [ho, resolve, invoke, builtin, Sem.run_bind, Sem.run_pure, Result.andThen_ok, List.map_toArray, List.map_cons, List.map_nil, hs, hx, hrun]
    exact hK' _ _ (hK A c w h (World.grownBy.refl w _))
  · refine wpList_append_own_at w hgd s x 22 ho base 61 i0 _ 18 144 Try.underlying22 hi hz0 hz1 hz2 (show (arr .i64 18 fun _ => 0).size = 18 by rw [arr_size]) (by omega) _ 0 [] hs h ad m c2 (flatO l) hx (by rw [flatO_len, hl])
      (fun j u hj => ?_) (flatO_one l) (by unfold maxLen; omega) (by omega) hbase ?_
    · obtain ⟨o, h1, h2⟩ := flatO_of hj
      obtain ⟨b, off, ea, _, hra⟩ := hr _ _ h1
      injection ea with ea
      subst ea
      rw [Addr.add_mid, show off + j = off + j / 18 * 18 + j % 18 by omega]
      exact hra _ _ h2
    · intro v' w' hown hgr _ _
      rw [Nat.zero_add, List.nil_append] at hown
      have hform : ∃ A' c', v' = .slice A' m c' := by
        rcases hown.2 with ⟨rfl, hz⟩ | ⟨g', cap, _, rfl, _⟩
        · exact ⟨none, 0, by rw [hz]⟩
        · exact ⟨_, _, rfl⟩
      obtain ⟨A', c', rfl⟩ := hform
      exact hK A' c' w' hown hgr
end Go.Proofs.Ythedopnhhanknaa
namespace Go.Proofs.Ythedopnhhanknaa
open Go.RowKit Ex
attribute [local go_sem] arr_get
set_option maxRecDepth 100000
set_option maxHeartbeats 0 in
theorem numCopy_own (s : StT) (O : SlT) (L : Nat → SlT) (cs : Array Value) (w : World) (h : ReadsS w.heap.size w cs s O L) (hn : s.objs.length ≤ 1000000) (hll : ∀ z < 11, (s.lists z).length ≤ 1000000) :
    Calls Try.prog 9 #[.agg cs] w fun e w' => ∃ cs', e = .returned (.agg cs') ∧ CopyO w s cs' w' := by
  go_enter Try.func9, Try.ntmps9
  have hcs := h.cs
  have c0 : cs[0]? = some (.slice O.A O.n O.c) := by rw [hcs]; exact stC_objs _ _ _ _
  have hOn := h.on
  have hO := h.o
  have H := Lib.hid h
  clear h
  obtain ⟨A, n, c⟩ := O
  simp only at c0 hOn hO
  have HC := Lib.hid hcs
  clear hcs
  subst hOn
  go_upto_region 1 with fail
  have hb1 : Below (w.alloc (.cells cs 29)).heap.size (w.alloc (.cells cs 29)) ((w.alloc (.cells cs 29)).alloc (.cells st0 29)) := (Below.refl _ _).alloc (Nat.le_refl _) _
  have hb2 : Below w.heap.size w ((w.alloc (.cells cs 29)).alloc (.cells st0 29)) := keepB hb1 ((Below.refl _ _).alloc (Nat.le_refl _) _)
  have hs1 : StAt ((w.alloc (.cells cs 29)).alloc (.cells st0 29)) w.heap.size cs := (StAt.new w cs).keep hb1
  have hr1 : StAt ((w.alloc (.cells cs 29)).alloc (.cells st0 29)) (w.heap.size + 1) st0 := by
    have h := StAt.new (w.alloc (.cells cs 29)) st0
    simpa using h
  have hz2 : ((w.alloc (.cells cs 29)).alloc (.cells st0 29)).heap.size = w.heap.size + 2 := by simp
  obtain ⟨r, hr⟩ : ∃ r, r = w.heap.size + 1 := ⟨_, rfl⟩
  obtain ⟨w2, hw2⟩ : ∃ w2, w2 = (w.alloc (.cells cs 29)).alloc (.cells st0 29) := ⟨_, rfl⟩
  rw [st0_is]
  rw [← hw2, ← hr] at hr1
  rw [← hw2] at hs1 hb2 hz2
  rw [← hw2, ← hr]
  have hrl : r < w2.heap.size := hr1.lt
  have hrw : w.heap.size < r := by omega
  clear hb1 hw2 hr
  obtain ⟨g, hg⟩ : ∃ g, g = w.heap.size := ⟨_, rfl⟩
  have hwg : w.heap.size ≤ g := by omega
  have hgr : g < r := by omega
  have HZ3 := Lib.hid (show w2.heap.size = r + 1 by omega)
  rw [← hg] at hs1
  rw [← hg]
  clear hg hz2
  have hgl : g < w2.heap.size := by omega
  have c3 := (hs1.cell 0).trans c0
  have hba : Below w2.heap.size w2 (w2.alloc (.cells #[] 61)) := (Below.refl _ _).alloc (Nat.le_refl _) _
  have hO3 := (hO.below hb2).below (hba.mono (by omega))
  have how := obj_empty w2 w2.heap.size (Nat.le_refl _)
  have hsb : w2.heap.size ≤ (w2.alloc (.cells #[] 61)).heap.size := hba.size
  go_upto_region 2 with (at_builtin; refine wpList_appOw rfl _ _ rfl w2.heap.size _ 0 rfl how _ A s.objs.length c s.objs rfl hO3 rfl hn hsb ?_; intro A4 c4 w4 ho4 hg4; have hb4 : Below w2.heap.size w2 w4 := hba.grown hg4 hsb (fun g hh => Nat.le_of_eq (Option.some.inj hh)); have hf4 := frozen_of_row w4 g 0 _ _ (hs1.keep hb4); have hc4 := ((hs1.keep hb4).cell 0).trans c0)
  have HCp := Lib.hid (show CpO w g (r + 1) s L ⟨A4, s.objs.length, c4⟩ L 0 (w4.setCell ⟨g, 0, none⟩ (.slice A4 s.objs.length c4)) from by
    have ha := hs1.keep hb4
    rw [HC.out] at ha
    rw [HZ3.out] at ho4
    exact CpO.start (keepB hb4 hb2) ha hwg (by omega) rfl ho4)
  have HR := Lib.hid (show StAt (w4.setCell ⟨g, 0, none⟩ (.slice A4 s.objs.length c4)) r st0 from (heap_setCell_other w4 ⟨g, 0, none⟩ r _ (by simp; omega)).trans (hr1.keep hb4))
  obtain ⟨w5, hw5⟩ : ∃ w5, w5 = w4.setCell ⟨g, 0, none⟩ (.slice A4 s.objs.length c4) := ⟨_, rfl⟩
  obtain ⟨O4, hO4⟩ : ∃ O4 : SlT, O4 = ⟨A4, s.objs.length, c4⟩ := ⟨_, rfl⟩
  rw [← hw5, ← hO4] at HCp
  rw [← hw5] at HR
  rw [← hw5]
  clear hw5 hO4 hf4 hc4 hb4 hg4 ho4 w4 hba hO3 how hsb c3 hs1 hr1 hb2 hrl hgl HZ3
  go_upto_region 3 with fail
  go_loopw [9] (fun i wr => ∃ (z : Nat) (L4 : Nat → SlT), i = .int .i64 ((z : Nat) : Int) ∧ z ≤ 11 ∧ Hid (CpO w g (r + 1) s L O4 L4 z wr) ∧ Hid (StAt wr r st0)) (fun i _ => 11 - (intOf i).toNat)
  case atStart => exact ⟨0, L, rfl, by omega, HCp, HR⟩
  case round =>
    clear HCp HR
    obtain ⟨z, L4, rfl, hz, HP, HR⟩ := hrel
    by_cases hlt : z < 11
    · have hd : decide ((z : Int) < 11) = true := by simp; omega
      obtain ⟨A2, n2, c2, hls, hN0⟩ : ∃ A2 n2 c2, L z = ⟨A2, n2, c2⟩ ∧ Nums .i64 w w.heap.size A2 n2 (s.lists z) := ⟨_, _, _, rfl, H.out.l z hlt⟩
      have hN := hN0.below HP.out.b
      have hln := hN0.len
      have hnm : n2 ≤ 1000000 := hln ▸ hll z hlt
      have p0 : (0 : Int) ≤ (z : Int) := by omega
      have p1 : (z : Int) < 11 := by omega
      have hg0 := HP.out.a
      have hcz := (hg0.cell (1 + z)).trans (stC_list _ _ _ _ hlt)
      rw [HP.out.r z (Nat.le_refl _), hls] at hcz
      have hcz : wr.cell? ⟨g, 1 + z, none⟩ = some (.slice A2 n2 c2) := hcz
      clear hls
      have hba : Below wr.heap.size wr (wr.alloc (.cells #[] 3)) := (Below.refl _ _).alloc (Nat.le_refl _) _
      have how : Own .i64 3 (wr.alloc (.cells #[] 3)) wr.heap.size (some ⟨wr.heap.size, 0, none⟩) 0 0 [] := own_empty wr wr.heap.size (Nat.le_refl _)
      have hbs : wr.heap.size ≤ (wr.alloc (.cells #[] 3)).heap.size := hba.size
      have hrr := HR.out.lt
      have hgl : g < wr.heap.size := by omega
      have hN2 := hN.below (hba.mono (by omega))
      obtain ⟨i0, hi, hz0, hz1, hz2⟩ := info_parts st_info_int
      clear hN0 hN hrr
      go_wp2_with (at_builtin; refine wpList_app rfl _ _ _ rfl .i64 wr.heap.size 3 i0 _ 8 Try.underlying23 hi hz0 hz1 hz2 rfl _ 0 0 [] rfl how w.heap.size A2 n2 c2 (s.lists z) rfl hN2 (by omega) (by omega) hbs ?_; intro A5 c5 w5 ho5 hg5; have hb5 : Below wr.heap.size wr w5 := how.belowGrown hba hbs hg5; have hf5 := frozen_of_row w5 g (1 + z) _ _ (hg0.keep hb5); have hc5 := ((hg0.keep hb5).cell (1 + z)).trans (stC_list _ _ _ _ hlt); rw [Nat.zero_add, List.nil_append] at ho5)
      have HP2 := Lib.hid (show CpO w g (r + 1) s L O4 (updS L4 z ⟨A5, n2, c5⟩) (z + 1) (w5.setCell ⟨g, 1 + z, none⟩ (.slice A5 n2 c5)) from (HP.out.keep hb5).next hlt hwg (by omega) (ho5.base_le (show r + 1 ≤ wr.heap.size by have := HR.out.lt; omega)) (fun y hy j hj h2 => by
        have h3 := (ho5.2.lt j h2).1
        have h4 := ((HP.out.l y hy).2.lt j hj).2
        omega))
      have HR2 := Lib.hid (show StAt (w5.setCell ⟨g, 1 + z, none⟩ (.slice A5 n2 c5)) r st0 from (heap_setCell_other w5 ⟨g, 1 + z, none⟩ r _ (by simp; omega)).trans (HR.out.keep hb5))
      clear hf5 hc5 hb5 hg5 ho5 hi hz0 hz1 hz2 how hba hbs hN2
      go_roundw
      case rel => exact ⟨z + 1, _, by go_num, by omega, HP2, HR2⟩
      case measure => simp [intOf]; omega
    · obtain rfl : z = 11 := by omega
      have hg9 := HP.out.a
      have hr9 := HR.out
      have HZ := Lib.hid (HP.out.copy (show w.heap.size ≤ r by omega) (by omega))
      obtain ⟨cs9, hcs9⟩ : ∃ cs9, cs9 = stC O4 L4 s.pl s.gm := ⟨_, rfl⟩
      have hsz9 : (Try.prog.info? 29).map (·.size) = some cs9.size := by rw [hcs9, stC_size]; exact size37
      have hs9 : st0.size = cs9.size := by rw [hcs9, stC_size, show st0.size = 37 from stC_size _ _ _ _]
      have hone9 : cs9.all (·.oneCell') = true := by rw [hcs9]; exact stC_one _ _ _ _
      rw [← hcs9] at HZ hg9
      clear hcs9 HP HR
      go_wp2_with (first
        | (refine wpList_load_row rfl 29 (.tmp 1) rfl g rfl 29 _ (0, 0) _ hg9 Try.underlying29 rfl hsz9 ?_)
        | (refine wpList_store_row rfl 29 (.tmp 2) (.tmp 22) rfl r _ rfl rfl 29 st0 hr9 hsz9 hs9 hone9 ?_))
      refine bodyPost_ret (v := .agg cs9) ?_ rfl ⟨cs9, rfl, HZ.out⟩
      exact results_cell_row (ty := 29) (p := 2) (by kernel_rfl) _ _ r 29 _ (0, 0) _ rfl (setRow_heap _ _ _ _ _ _ hr9) Try.underlying29 rfl hsz9
end Go.Proofs.Ythedopnhhanknaa
namespace Go.Proofs.Ythedopnhhanknaa
open Go.RowKit Ex
set_option maxRecDepth 100000
/-- The same objects. -/
def sameOL : List (Nat → Int) → List (Nat → Int) → Bool
  | [], [] => true
  | a :: l, b :: r => sameI 18 a b && sameOL l r
  | _, _ => false
theorem sameOL_iff : ∀ {l r : List (Nat → Int)}, sameOL l r = true ↔ l.length = r.length ∧ ∀ k (h1 : k < l.length) (h2 : k < r.length), sameI 18 l[k] r[k] = true
  | [], [] => by simp [sameOL]
  | [], _ :: _ => by simp [sameOL]
  | _ :: _, [] => by simp [sameOL]
  | a :: l, b :: r => by
    simp only [sameOL, Bool.and_eq_true, List.length_cons, sameOL_iff (l := l) (r := r)]
    constructor
    · rintro ⟨h1, h2, h3⟩
      refine ⟨by omega, fun k hk1 hk2 => ?_⟩
      cases k with
      | zero => exact h1
      | succ k => exact h3 k (by omega) (by omega)
    · rintro ⟨h1, h2⟩
      exact ⟨h2 0 (by omega) (by omega), by omega, fun k hk1 hk2 => h2 (k + 1) (by omega) (by omega)⟩
theorem sameOL_refl (l : List (Nat → Int)) : sameOL l l = true := sameOL_iff.2 ⟨rfl, fun _ _ _ => sameI_refl _ _⟩
theorem sameOL_len {l r : List (Nat → Int)} (h : l.length ≠ r.length) : sameOL l r = false := by
  rw [Bool.eq_false_iff]; intro h2; exact h (sameOL_iff.1 h2).1
theorem sameOL_at {l r : List (Nat → Int)} {k : Nat} (h1 : k < l.length) (h2 : k < r.length) (h : sameI 18 l[k] r[k] = false) : sameOL l r = false := by
  rw [Bool.eq_false_iff]; intro h3; rw [(sameOL_iff.1 h3).2 k h1 h2] at h; cases h
def sameL (a b : StT) : Bool := (List.range 11).all fun z => decide (a.lists z = b.lists z)
theorem sameL_good {a b : StT} (h : ∀ z, z < 11 → a.lists z = b.lists z) : sameL a b = true := by
  unfold sameL; rw [List.all_eq_true]; intro z hz; simpa using h z (List.mem_range.1 hz)
theorem sameL_bad {a b : StT} {z : Nat} (hz : z < 11) (h : a.lists z ≠ b.lists z) : sameL a b = false := by
  rw [Bool.eq_false_iff]; intro h2
  unfold sameL at h2
  rw [List.all_eq_true] at h2
  exact h (by simpa using h2 z (List.mem_range.2 hz))
def sameS (a b : StT) : Bool := sameL a b && sameOL a.objs b.objs && sameI 18 a.pl b.pl && sameI 7 a.gm b.gm
theorem sameS_refl (a : StT) : sameS a a = true := by
  simp only [sameS, sameL_good (fun z _ => rfl), sameOL_refl, sameI_refl, Bool.and_true]
theorem range18' : List.range 18 = [0, 1, 2, 3, 4, 5, 6, 7, 8, 9, 10, 11, 12, 13, 14, 15, 16, 17] := rfl
theorem sameI_two (f g : Nat → Int) : sameI 18 f g = (sameI 9 (fun j => f (0 * 9 + j)) (fun j => g (0 * 9 + j)) && sameI 9 (fun j => f (1 * 9 + j)) (fun j => g (1 * 9 + j))) := by
  rw [Bool.eq_iff_iff, Bool.and_eq_true, sameI_iff, sameI_iff, sameI_iff]
  refine ⟨fun h => ⟨fun i hi => h _ (by omega), fun i hi => h _ (by omega)⟩, fun ⟨h1, h2⟩ i hi => ?_⟩
  by_cases e : i < 9
  · have := h1 i e; simpa using this
  · have := h2 (i - 9) (by omega)
    simpa [show 9 + (i - 9) = i by omega] using this
theorem part_two (f : Nat → Int) (w : World) : (part 25 (arr .i64 18 f) (0 * 9)).run Try.prog w = .ok (.agg (arr .i64 9 fun j => f (0 * 9 + j))) w ∧ (part 25 (arr .i64 18 f) (1 * 9)).run Try.prog w = .ok (.agg (arr .i64 9 fun j => f (1 * 9 + j))) w := ⟨by kernel_rfl, by kernel_rfl⟩
theorem size_nine (w : World) : (sizeOf 25).run Try.prog w = .ok 9 w := by kernel_rfl
theorem run_equalIn_two (w : World) (d : Nat) (f g : Nat → Int) : (Op.equalIn (d + 3) 26 (.agg (arr .i64 18 f)) (.agg (arr .i64 18 g))).run Try.prog w = .ok (sameI 18 f g) w := by
  rw [sameI_two, Op.equalIn]
  simp only [Sem.run_bind, run_underlying Try.underlying26, Result.andThen_ok, size_nine, Std.Legacy.Range.forIn_eq_forIn_range', Std.Legacy.Range.size, Nat.sub_zero, Nat.add_sub_cancel, Nat.div_one]
  rw [show List.range' 0 2 1 = [0, 1] from rfl]
  have e0 := run_equalIn_arr (P := Try.prog) w d 25 3 .i64 9 Try.underlying25 Try.underlying3 (fun _ => by kernel_rfl) (fun j => f (0 * 9 + j)) (fun j => g (0 * 9 + j))
  have e1 := run_equalIn_arr (P := Try.prog) w d 25 3 .i64 9 Try.underlying25 Try.underlying3 (fun _ => by kernel_rfl) (fun j => f (1 * 9 + j)) (fun j => g (1 * 9 + j))
  have pf0 := (part_two f w).1
  have pg0 := (part_two g w).1
  have pf1 : (part 25 (arr .i64 18 f) 9).run Try.prog w = _ := (part_two f w).2
  have pg1 : (part 25 (arr .i64 18 g) 9).run Try.prog w = _ := (part_two g w).2
  generalize (fun j => f (0 * 9 + j)) = f0 at *
  generalize (fun j => g (0 * 9 + j)) = g0 at *
  generalize (fun j => f (1 * 9 + j)) = f1 at *
  generalize (fun j => g (1 * 9 + j)) = g1 at *
  simp only [List.forIn_cons, Sem.run_bind, pf0, pg0, e0, Result.andThen_ok]
  cases h0 : sameI 9 f0 g0 <;> cases h1 : sameI 9 f1 g1 <;> simp [pf1, pg1, e1, h1]
theorem eql_two (f g : Nat → Int) (w : World) : (binOp .eql 26 (.agg (arr .i64 18 f)) (.agg (arr .i64 18 g))).run Try.prog w = .ok (.bool (sameI 18 f g)) w := by
  simp only [binOp]
  simp [Op.equal, Op.maxDepth, run_equalIn_two w 9997 f g]
theorem neq_two (f g : Nat → Int) (w : World) : (binOp .neq 26 (.agg (arr .i64 18 f)) (.agg (arr .i64 18 g))).run Try.prog w = .ok (.bool (!sameI 18 f g)) w := by
  simp only [binOp]
  simp [Op.equal, Op.maxDepth, run_equalIn_two w 9997 f g]
theorem eql_seven (f g : Nat → Int) (w : World) : (binOp .eql 27 (.agg (arr .i64 7 f)) (.agg (arr .i64 7 g))).run Try.prog w = .ok (.bool (sameI 7 f g)) w :=
  run_eql_arr w 27 3 .i64 7 Try.underlying27 Try.underlying3 (fun _ => by kernel_rfl) f g
theorem neq_seven (f g : Nat → Int) (w : World) : (binOp .neq 27 (.agg (arr .i64 7 f)) (.agg (arr .i64 7 g))).run Try.prog w = .ok (.bool (!sameI 7 f g)) w :=
  run_neq_arr w 27 3 .i64 7 Try.underlying27 Try.underlying3 (fun _ => by kernel_rfl) f g
theorem neq_obj (f g : Nat → Int) (w : World) : (binOp .neq 61 (.agg (arr .i64 18 f)) (.agg (arr .i64 18 g))).run Try.prog w = .ok (.bool (!sameI 18 f g)) w :=
  run_neq_arr w 61 3 .i64 18 Try.underlying61 Try.underlying3 (fun _ => by kernel_rfl) f g
end Go.Proofs.Ythedopnhhanknaa
namespace Go.Proofs.Ythedopnhhanknaa
open Go.RowKit
namespace Ex
/-- A list with a number more; without a place; of which one number was moved. -/
def insL (l : List Int) (i : Nat) (x : Int) : List Int := l.take i ++ x :: l.drop i
def rmL (l : List Int) (i : Nat) : List Int := l.take i ++ l.drop (i + 1)
def mvL (l : List Int) (i j : Nat) : List Int := insL (rmL l i) j (l.getD i 0)
/-- The first place; -1: none. -/
def idxL : List Int → Int → Int
  | [], _ => -1
  | y :: l, x => if y = x then 0 else if idxL l x = -1 then -1 else idxL l x + 1
theorem idx_ge : ∀ (l : List Int) (x : Int), -1 ≤ idxL l x ∧ idxL l x < l.length
  | [], x => by simp [idxL]
  | y :: l, x => by
    have h := idx_ge l x
    simp only [idxL, List.length_cons]
    split
    · omega
    · split <;> omega
theorem idx_none : ∀ {l : List Int} {x : Int}, idxL l x = -1 ↔ x ∉ l
  | [], x => by simp [idxL]
  | y :: l, x => by
    have h := idx_none (l := l) (x := x)
    have h2 := idx_ge l x
    simp only [idxL, List.mem_cons, not_or]
    by_cases e : y = x
    · rw [if_pos e]; exact ⟨fun h => by omega, fun h => absurd e.symm h.1⟩
    · rw [if_neg e]
      split
      · rename_i h1; exact ⟨fun _ => ⟨fun h => e h.symm, h.1 h1⟩, fun _ => rfl⟩
      · rename_i h1; exact ⟨fun h3 => by omega, fun h3 => absurd (h.2 h3.2) h1⟩
theorem idx_at : ∀ {l : List Int} {x : Int} {k : Nat}, (∀ (j : Nat), j < k → l[j]? ≠ some x) → l[k]? = some x → idxL l x = (k : Int)
  | [], x, k, _, h => by simp at h
  | y :: l, x, 0, _, h => by simp at h; simp [idxL, h]
  | y :: l, x, k + 1, h1, h => by
    have e : y ≠ x := fun e => h1 0 (by omega) (by simp [e])
    have ih := idx_at (l := l) (x := x) (k := k) (fun j hj => by have := h1 (j + 1) (by omega); simpa using this) (by simpa using h)
    simp only [idxL, if_neg e, ih]
    rw [if_neg (by omega)]; omega
theorem idx_mem {l : List Int} {x : Int} (h : x ∈ l) : 0 ≤ idxL l x := by
  have h1 := idx_ge l x
  have h2 := (idx_none (l := l) (x := x))
  by_cases e : idxL l x = -1
  · exact absurd h (h2.1 e)
  · omega
/-- No number stands twice just where each one's first place is its own. -/
theorem once_iff {l : List Int} : (∀ (i : Nat) (x : Int), l[i]? = some x → idxL l x = (i : Int)) ↔ l.Nodup := by
  unfold List.Nodup
  rw [List.pairwise_iff_getElem]
  constructor
  · intro h i j hi hj hij e
    have h1 := h i l[i] (List.getElem?_eq_getElem hi)
    have h2 := h j l[j] (List.getElem?_eq_getElem hj)
    rw [e] at h1
    omega
  · intro h i x hx
    refine idx_at (fun j hj e => ?_) hx
    obtain ⟨hi, hxi⟩ := List.getElem?_eq_some_iff.1 hx
    obtain ⟨hj2, hxj⟩ := List.getElem?_eq_some_iff.1 e
    exact h j i hj2 hi hj (hxj.trans hxi.symm)
/-- Is order each of the n places once? -/
def dealOk (n : Nat) (order : List Int) : Prop := n = order.length ∧ ∀ i : Nat, i < n → (i : Int) ∈ order
instance (n : Nat) (order : List Int) : Decidable (dealOk n order) := inferInstanceAs (Decidable (_ ∧ _))
theorem deal_in : ∀ (n : Nat) (o : List Int), o.length = n → (∀ i : Nat, i < n → (i : Int) ∈ o) → ∀ x ∈ o, 0 ≤ x ∧ x < n
  | 0, o, hl, _, x, hx => by rw [List.eq_nil_of_length_eq_zero hl] at hx; simp at hx
  | n + 1, o, hl, hm, x, hx => by
    have hn := hm n (by omega)
    have ih := deal_in n (o.erase (n : Int)) (by rw [List.length_erase_of_mem hn]; omega) (fun i hi => (List.mem_erase_of_ne (by omega)).2 (hm i (by omega)))
    by_cases e : x = (n : Int)
    · omega
    · have := ih x ((List.mem_erase_of_ne e).2 hx)
      omega
def dealL (l order : List Int) : List Int := order.map fun o => l.getD o.toNat 0
/-- What has been laid of a list with a number more when k places are over. -/
def insK (l : List Int) (i : Nat) (x : Int) (k : Nat) : List Int := if i < k then insL (l.take k) i x else l.take k
theorem insK_step (l : List Int) (i : Nat) (x : Int) (k : Nat) (hi : i ≤ l.length) (hk : k ≤ l.length) :
    insK l i x (k + 1) = insK l i x k ++ ((if k = i then [x] else []) ++ (l[k]?).toList) := by
  unfold insK insL
  rw [List.take_add_one]
  by_cases h1 : i < k
  · rw [if_pos (by omega), if_pos h1, if_neg (by omega)]
    have hl : i ≤ (l.take k).length := by rw [List.length_take]; omega
    rw [List.take_append_of_le_length hl, List.drop_append_of_le_length hl]
    simp
  · by_cases h2 : k = i
    · subst h2
      rw [if_pos (by omega), if_neg (by omega), if_pos rfl]
      have hl : (l.take k).length = k := by rw [List.length_take]; omega
      rw [List.take_append_of_le_length (by omega), List.drop_append_of_le_length (by omega), List.take_of_length_le (by omega), List.drop_of_length_le (by omega)]
      simp
    · rw [if_neg (by omega), if_neg h1, if_neg h2]; simp
theorem insK_end (l : List Int) (i : Nat) (x : Int) (hi : i ≤ l.length) : insK l i x (l.length + 1) = insL l i x := by
  unfold insK; rw [if_pos (by omega), List.take_of_length_le (by omega)]
def rmK (l : List Int) (i k : Nat) : List Int := if i < k then rmL (l.take k) i else l.take k
theorem rmK_step (l : List Int) (i k : Nat) (hk : k < l.length) : rmK l i (k + 1) = rmK l i k ++ (if k = i then [] else [l[k]]) := by
  unfold rmK rmL
  rw [List.take_succ_eq_append_getElem hk]
  have hl : (l.take k).length = k := by rw [List.length_take]; omega
  by_cases h1 : i < k
  · rw [if_pos (by omega), if_pos h1, if_neg (by omega), List.take_append_of_le_length (by omega), List.drop_append_of_le_length (by omega)]
    simp
  · by_cases h2 : k = i
    · subst h2
      rw [if_pos (by omega), if_neg (by omega), if_pos rfl, List.take_append_of_le_length (by omega), List.drop_of_length_le (by simp; omega), List.take_of_length_le (by omega)]
    · rw [if_neg (by omega), if_neg h1, if_neg h2]
theorem rmK_end (l : List Int) (i : Nat) (hi : i < l.length) : rmK l i l.length = rmL l i := by
  unfold rmK; rw [if_pos hi, List.take_length]
theorem ins_len (l : List Int) (i : Nat) (x : Int) (hi : i ≤ l.length) : (insL l i x).length = l.length + 1 := by simp [insL]; omega
theorem rm_len (l : List Int) (i : Nat) (hi : i < l.length) : (rmL l i).length = l.length - 1 := by simp [rmL]; omega
theorem insK_len (l : List Int) (i : Nat) (x : Int) (k : Nat) : (insK l i x k).length ≤ l.length + 1 := by
  unfold insK insL; split
  · simp; omega
  · simp; omega
theorem rmK_len (l : List Int) (i k : Nat) : (rmK l i k).length ≤ l.length := by
  unfold rmK rmL; split
  · simp; omega
  · simp; omega
theorem ins_at (l : List Int) (i : Nat) (x : Int) (hi : i ≤ l.length) : (insL l i x)[i]? = some x := by
  unfold insL
  rw [List.getElem?_append_right (by rw [List.length_take]; omega), List.length_take, show i - min i l.length = 0 by omega]
  rfl
theorem rm_ins (l : List Int) (i : Nat) (x : Int) (hi : i ≤ l.length) : rmL (insL l i x) i = l := by
  unfold rmL insL
  have hl : (l.take i).length = i := by rw [List.length_take]; omega
  rw [List.take_append_of_le_length (by omega), List.take_of_length_le (by omega), List.drop_append, List.drop_of_length_le (by omega), hl, show i + 1 - i = 1 by omega, List.nil_append]
  simp
theorem ins_rm (l : List Int) (i : Nat) (hi : i < l.length) : insL (rmL l i) i (l.getD i 0) = l := by
  unfold rmL insL
  have hl : (l.take i).length = i := by rw [List.length_take]; omega
  rw [List.take_append_of_le_length (by omega), List.take_of_length_le (by omega), List.drop_append, List.drop_of_length_le (by omega), hl, Nat.sub_self, List.nil_append, List.drop_zero, List.getD_eq_getElem?_getD, List.getElem?_eq_getElem hi, Option.getD_some, ← List.drop_eq_getElem_cons hi, List.take_append_drop]
theorem mv_len (l : List Int) (i j : Nat) (hi : i < l.length) (hj : j < l.length) : (mvL l i j).length = l.length := by
  unfold mvL; rw [ins_len _ _ _ (by rw [rm_len l i hi]; omega), rm_len l i hi]; omega
theorem mv_back (l : List Int) (i j : Nat) (hi : i < l.length) (hj : j < l.length) : mvL (mvL l i j) j i = l := by
  have hr : j ≤ (rmL l i).length := by rw [rm_len l i hi]; omega
  have h1 : rmL (mvL l i j) j = rmL l i := rm_ins _ _ _ hr
  have h2 : (mvL l i j).getD j 0 = l.getD i 0 := by rw [List.getD_eq_getElem?_getD, show (mvL l i j)[j]? = some (l.getD i 0) from ins_at _ _ _ hr]; rfl
  unfold mvL at h1 h2 ⊢
  rw [h1, h2, ins_rm l i hi]
end Ex
end Go.Proofs.Ythedopnhhanknaa
namespace Go.Proofs.Ythedopnhhanknaa
open Go.RowKit Ex
namespace Ex
/-- An event: its kind, A to E. -/
structure EvT where
  k : Int
  a : Int
  b : Int
  c : Int
  d : Int
  e : Int
end Ex
def evV (e : EvT) : Value := .agg #[.int .i64 e.k, .int .i64 e.a, .int .i64 e.b, .int .i64 e.c, .int .i64 e.d, .int .i64 e.e]
def rngE (e : EvT) : Prop := e.d ≤ 1073741824 ∧ -1073741824 ≤ e.d
instance (e : EvT) : Decidable (rngE e) := by unfold rngE; infer_instance
/-- An error's number. -/
def chkE (e : EvT) : Int :=
  if e.k = 0 ∨ e.k = 5 then (if e.d = 0 ∧ e.e = 0 then (if 0 ≤ e.a ∧ e.a ≤ 119 ∧ 0 ≤ e.b ∧ e.b ≤ 1 ∧ 0 ≤ e.c ∧ e.c ≤ 2 then 0 else 1) else 2)
  else if e.k = 1 then (if 0 ≤ e.a ∧ 0 ≤ e.b ∧ e.b ≤ 10 ∧ 0 ≤ e.c ∧ 0 ≤ e.d ∧ e.d ≤ 10 ∧ 0 ≤ e.e then 0 else 1)
  else if e.k = 2 then (if e.e = 0 then (if 0 ≤ e.a ∧ 0 ≤ e.b ∧ e.b ≤ 17 ∧ (e.b < 3 ∨ 3 < e.b) ∧ rngE e then 0 else 1) else 2)
  else if e.k = 3 then (if e.e = 0 then (if 0 ≤ e.a ∧ e.a ≤ 1 ∧ 0 ≤ e.b ∧ e.b ≤ 8 ∧ rngE e then 0 else 1) else 2)
  else if e.k = 4 then (if e.e = 0 ∧ e.a = 0 then (if 0 ≤ e.b ∧ e.b ≤ 6 ∧ rngE e then 0 else 1) else 2)
  else 6
/-- Undone. -/
def invE (e : EvT) : EvT :=
  if e.k = 0 then { e with k := 5 } else if e.k = 5 then { e with k := 0 } else if e.k = 1 then ⟨1, e.a, e.d, e.e, e.b, e.c⟩
  else if e.k = 2 ∨ e.k = 3 ∨ e.k = 4 then ⟨e.k, e.a, e.b, e.d, e.c, e.e⟩ else e
theorem inv_inv (e : EvT) : invE (invE e) = e := by
  obtain ⟨k, a, b, c, d, f⟩ := e
  unfold invE
  by_cases h0 : k = 0
  · subst h0; simp
  by_cases h5 : k = 5
  · subst h5; simp
  by_cases h1 : k = 1
  · subst h1; simp
  by_cases h2 : k = 2 ∨ k = 3 ∨ k = 4
  · simp [h0, h5, h1, h2]
  · simp [h0, h5, h1, h2]
/-- An object that is made. -/
def madeO (a b c : Int) : Nat → Int := fun i => if i = 0 then a else if i = 1 ∨ i = 2 then b else if i = 3 then 10 else if i = 13 then c else if i = 17 then 3 else 0
def updL (L : Nat → List Int) (z : Nat) (l : List Int) : Nat → List Int := fun i => if i = z then l else L i
theorem updL_at (L : Nat → List Int) (z : Nat) (l : List Int) : updL L z l z = l := if_pos rfl
theorem updL_ne (L : Nat → List Int) {z y : Nat} (h : y ≠ z) (l : List Int) : updL L z l y = L y := if_neg h
def setO (os : List (Nat → Int)) (i j : Nat) (x : Int) : List (Nat → Int) := os.set i (updI (os.getD i fun _ => 0) j x)
theorem setO_len (os : List (Nat → Int)) (i j : Nat) (x : Int) : (setO os i j x).length = os.length := List.length_set
theorem setO_at {os : List (Nat → Int)} {i j : Nat} {x : Int} (h : i < os.length) : (setO os i j x).getD i (fun _ => 0) = updI (os.getD i fun _ => 0) j x := by
  unfold setO
  rw [List.getD_eq_getElem?_getD, List.getElem?_set_self h, Option.getD_some]
def ap0 (s : StT) (e : EvT) : StT × Int :=
  if 400 ≤ s.objs.length then (sT0, 5) else (⟨s.objs ++ [madeO e.a e.b e.c], updL s.lists 10 (s.lists 10 ++ [(s.objs.length : Int)]), s.pl, s.gm⟩, 0)
def ap5 (s : StT) (e : EvT) : StT × Int :=
  if s.objs.length = 0 ∨ (s.lists 10).length = 0 ∨ (s.lists 10).getD ((s.lists 10).length - 1) 0 ≠ (s.objs.length : Int) - 1 ∨ sameI 18 (s.objs.getD (s.objs.length - 1) fun _ => 0) (madeO e.a e.b e.c) = false then (sT0, 20)
  else (⟨s.objs.take (s.objs.length - 1), updL s.lists 10 ((s.lists 10).take ((s.lists 10).length - 1)), s.pl, s.gm⟩, 0)
/-- The lists, of which a number was taken. -/
def mv1 (s : StT) (e : EvT) : Nat → List Int := updL s.lists e.b.toNat (rmL (s.lists e.b.toNat) e.c.toNat)
def ap1 (s : StT) (e : EvT) : StT × Int :=
  if (s.objs.length : Int) ≤ e.a then (sT0, 4)
  else if ((s.lists e.b.toNat).length : Int) ≤ e.c ∨ (s.lists e.b.toNat).getD e.c.toNat 0 ≠ e.a then (sT0, 20)
  else if ((mv1 s e e.d.toNat).length : Int) < e.e then (sT0, 1)
  else (⟨setO s.objs e.a.toNat 3 e.d, updL (mv1 s e) e.d.toNat (insL (mv1 s e e.d.toNat) e.e.toNat e.a), s.pl, s.gm⟩, 0)
def ap2 (s : StT) (e : EvT) : StT × Int :=
  if (s.objs.length : Int) ≤ e.a then (sT0, 4)
  else if (s.objs.getD e.a.toNat fun _ => 0) e.b.toNat ≠ e.c then (sT0, 20)
  else (⟨setO s.objs e.a.toNat e.b.toNat e.d, s.lists, s.pl, s.gm⟩, 0)
def ap3 (s : StT) (e : EvT) : StT × Int :=
  if s.pl (e.a.toNat * 9 + e.b.toNat) ≠ e.c then (sT0, 20) else (⟨s.objs, s.lists, updI s.pl (e.a.toNat * 9 + e.b.toNat) e.d, s.gm⟩, 0)
def ap4 (s : StT) (e : EvT) : StT × Int :=
  if s.gm e.b.toNat ≠ e.c then (sT0, 20) else (⟨s.objs, s.lists, s.pl, updI s.gm e.b.toNat e.d⟩, 0)
/-- The state behind an event; an error's number. -/
def applyS (s : StT) (e : EvT) : StT × Int :=
  if chkE e ≠ 0 then (sT0, chkE e) else if e.k = 0 then ap0 s e else if e.k = 1 then ap1 s e else if e.k = 2 then ap2 s e else if e.k = 3 then ap3 s e else if e.k = 4 then ap4 s e else ap5 s e
/-- What may be is of a kind; its numbers. -/
theorem chkE_kind {e : EvT} (h : chkE e = 0) :
    (e.k = 0 ∧ e.d = 0 ∧ e.e = 0 ∧ 0 ≤ e.a ∧ e.a ≤ 119 ∧ 0 ≤ e.b ∧ e.b ≤ 1 ∧ 0 ≤ e.c ∧ e.c ≤ 2) ∨ (e.k = 5 ∧ e.d = 0 ∧ e.e = 0 ∧ 0 ≤ e.a ∧ e.a ≤ 119 ∧ 0 ≤ e.b ∧ e.b ≤ 1 ∧ 0 ≤ e.c ∧ e.c ≤ 2) ∨
    (e.k = 1 ∧ 0 ≤ e.a ∧ 0 ≤ e.b ∧ e.b ≤ 10 ∧ 0 ≤ e.c ∧ 0 ≤ e.d ∧ e.d ≤ 10 ∧ 0 ≤ e.e) ∨ (e.k = 2 ∧ e.e = 0 ∧ 0 ≤ e.a ∧ 0 ≤ e.b ∧ e.b ≤ 17 ∧ (e.b < 3 ∨ 3 < e.b) ∧ rngE e) ∨
    (e.k = 3 ∧ e.e = 0 ∧ 0 ≤ e.a ∧ e.a ≤ 1 ∧ 0 ≤ e.b ∧ e.b ≤ 8 ∧ rngE e) ∨ (e.k = 4 ∧ e.e = 0 ∧ e.a = 0 ∧ 0 ≤ e.b ∧ e.b ≤ 6 ∧ rngE e) := by
  unfold chkE rngE at h
  unfold rngE
  (repeat' split at h) <;> omega
theorem ck0 (a b c d f : Int) : chkE ⟨0, a, b, c, d, f⟩ = if d = 0 ∧ f = 0 then (if 0 ≤ a ∧ a ≤ 119 ∧ 0 ≤ b ∧ b ≤ 1 ∧ 0 ≤ c ∧ c ≤ 2 then 0 else 1) else 2 := rfl
theorem ck5 (a b c d f : Int) : chkE ⟨5, a, b, c, d, f⟩ = if d = 0 ∧ f = 0 then (if 0 ≤ a ∧ a ≤ 119 ∧ 0 ≤ b ∧ b ≤ 1 ∧ 0 ≤ c ∧ c ≤ 2 then 0 else 1) else 2 := rfl
theorem ck1 (a b c d f : Int) : chkE ⟨1, a, b, c, d, f⟩ = if 0 ≤ a ∧ 0 ≤ b ∧ b ≤ 10 ∧ 0 ≤ c ∧ 0 ≤ d ∧ d ≤ 10 ∧ 0 ≤ f then 0 else 1 := rfl
theorem ck2 (a b c d f : Int) : chkE ⟨2, a, b, c, d, f⟩ = if f = 0 then (if 0 ≤ a ∧ 0 ≤ b ∧ b ≤ 17 ∧ (b < 3 ∨ 3 < b) ∧ d ≤ 1073741824 ∧ -1073741824 ≤ d then 0 else 1) else 2 := rfl
theorem ck3 (a b c d f : Int) : chkE ⟨3, a, b, c, d, f⟩ = if f = 0 then (if 0 ≤ a ∧ a ≤ 1 ∧ 0 ≤ b ∧ b ≤ 8 ∧ d ≤ 1073741824 ∧ -1073741824 ≤ d then 0 else 1) else 2 := rfl
theorem ck4 (a b c d f : Int) : chkE ⟨4, a, b, c, d, f⟩ = if f = 0 ∧ a = 0 then (if 0 ≤ b ∧ b ≤ 6 ∧ d ≤ 1073741824 ∧ -1073741824 ≤ d then 0 else 1) else 2 := rfl
theorem ckN (k a b c d f : Int) (h : k < 0 ∨ 5 < k) : chkE ⟨k, a, b, c, d, f⟩ = 6 := by
  unfold chkE; dsimp only
  rw [if_neg (by omega), if_neg (by omega), if_neg (by omega), if_neg (by omega), if_neg (by omega)]
/-- What was changed is as it was, but for a moved object's zone. -/
def backS (s u : StT) (e : EvT) : StT := if e.k = 1 then { u with objs := setO u.objs e.a.toNat 3 ((s.objs.getD e.a.toNat fun _ => 0) 3) } else u
theorem sameS_of {a b : StT} (h1 : a.objs.length = b.objs.length) (h2 : ∀ k (x : k < a.objs.length) (y : k < b.objs.length), ∀ i, i < 18 → a.objs[k] i = b.objs[k] i) (h3 : ∀ z, z < 11 → a.lists z = b.lists z) (h4 : ∀ i, i < 18 → a.pl i = b.pl i) (h5 : ∀ i, i < 7 → a.gm i = b.gm i) : sameS a b = true := by
  unfold sameS
  rw [sameL_good h3, sameOL_iff.2 ⟨h1, fun k x y => sameI_iff.2 (h2 k x y)⟩, sameI_iff.2 h4, sameI_iff.2 h5]; rfl
theorem getD_in {α : Type} (l : List α) {i : Nat} (h : i < l.length) (d : α) : l.getD i d = l[i] := by rw [List.getD_eq_getElem?_getD, List.getElem?_eq_getElem h, Option.getD_some]
theorem take_last {l : List Int} {x : Int} (h : l.length ≠ 0) (hx : l.getD (l.length - 1) 0 = x) : l.take (l.length - 1) ++ [x] = l := by
  rw [getD_in l (by omega)] at hx
  have := List.take_succ_eq_append_getElem (l := l) (i := l.length - 1) (by omega)
  rw [hx, show l.length - 1 + 1 = l.length by omega, List.take_length] at this
  exact this.symm
theorem back0 {s t : StT} {e f : EvT} (he : f.a = e.a ∧ f.b = e.b ∧ f.c = e.c) (h : ap0 s e = (t, 0)) : ∃ u, ap5 t f = (u, 0) ∧ sameS u s = true ∧ u.objs.length = s.objs.length := by
  obtain ⟨h1, h2, h3⟩ := he
  unfold ap0 at h
  split at h
  · have := congrArg Prod.snd h; simp at this
  · obtain rfl := congrArg Prod.fst h
    clear h
    unfold ap5
    simp only [List.length_append, List.length_singleton, updL_at, Nat.add_sub_cancel]
    rw [if_neg]
    · refine ⟨_, rfl, ?_, by simp⟩
      refine sameS_of (by simp) (fun k x y i hi => by simp; rw [List.getElem_append_left y]) (fun z hz => ?_) (fun _ _ => rfl) (fun _ _ => rfl)
      by_cases e : z = 10
      · subst e; simp [updL_at]
      · simp [updL_ne _ e]
    · rw [h1, h2, h3]
      have e1 : (s.lists 10 ++ [(s.objs.length : Int)]).getD (s.lists 10).length 0 = (s.objs.length : Int) := by
        rw [List.getD_eq_getElem?_getD, List.getElem?_append_right (Nat.le_refl _)]; simp
      have e2 : (s.objs ++ [madeO e.a e.b e.c]).getD s.objs.length (fun _ => 0) = madeO e.a e.b e.c := by
        rw [List.getD_eq_getElem?_getD, List.getElem?_append_right (Nat.le_refl _)]; simp
      rw [e1, e2, sameI_refl]
      rintro (h | h | h | h)
      · omega
      · omega
      · apply h; push_cast; omega
      · cases h
theorem back5 {s t : StT} {e f : EvT} (hn : s.objs.length ≤ 400) (he : f.a = e.a ∧ f.b = e.b ∧ f.c = e.c) (h : ap5 s e = (t, 0)) : ∃ u, ap0 t f = (u, 0) ∧ sameS u s = true ∧ u.objs.length = s.objs.length := by
  obtain ⟨h1, h2, h3⟩ := he
  unfold ap5 at h
  split at h
  · have := congrArg Prod.snd h; simp at this
  · rename_i hno
    obtain rfl := congrArg Prod.fst h
    clear h
    have g1 : s.objs.length ≠ 0 := fun h => hno (.inl h)
    have g2 : (s.lists 10).length ≠ 0 := fun h => hno (.inr (.inl h))
    have g3 : (s.lists 10).getD ((s.lists 10).length - 1) 0 = (s.objs.length : Int) - 1 := Classical.byContradiction fun h => hno (.inr (.inr (.inl h)))
    have g4 : sameI 18 (s.objs.getD (s.objs.length - 1) fun _ => 0) (madeO e.a e.b e.c) = true := by
      cases hb : sameI 18 (s.objs.getD (s.objs.length - 1) fun _ => 0) (madeO e.a e.b e.c)
      · exact absurd (.inr (.inr (.inr hb))) hno
      · rfl
    clear hno
    unfold ap0
    simp only [List.length_take, Nat.min_eq_left (Nat.sub_le _ _), updL_at]
    rw [if_neg (by omega), h1, h2, h3]
    refine ⟨_, rfl, ?_, by simp; omega⟩
    refine sameS_of (by simp; omega) (fun k x y i hi => ?_) (fun z hz => ?_) (fun _ _ => rfl) (fun _ _ => rfl)
    · simp only
      by_cases hk : k < s.objs.length - 1
      · rw [List.getElem_append_left (by simp; omega), List.getElem_take]
      · have hk2 : k = s.objs.length - 1 := by omega
        subst hk2
        rw [List.getElem_append_right (by simp)]
        rw [getD_in _ (by omega)] at g4
        have := sameI_iff.1 g4 i hi
        simp only [List.getElem_singleton]
        exact this.symm
    · by_cases e : z = 10
      · subst e
        simp only [updL_at]
        refine take_last g2 ?_
        rw [g3]; omega
      · simp [updL_ne _ e]
theorem sameO_set {os : List (Nat → Int)} {i : Nat} (hi : i < os.length) {x y : Int} {j : Nat} (h : (os.getD i fun _ => 0) j = y) : ∀ k (p : k < (setO (setO os i j x) i j y).length) (q : k < os.length), ∀ n, n < 18 → (setO (setO os i j x) i j y)[k] n = os[k] n := by
  intro k p q n _
  have e1 : setO (setO os i j x) i j y = os.set i (updI (updI (os.getD i fun _ => 0) j x) j y) := by
    rw [setO, setO_at hi, setO, List.set_set]
  rw [List.getElem_of_eq e1, List.getElem_set]
  by_cases e : i = k
  · subst e
    rw [if_pos rfl]
    rw [getD_in _ hi] at h ⊢
    unfold updI
    by_cases e : n = j
    · subst e; rw [if_pos rfl]; exact h.symm
    · rw [if_neg e, if_neg e]
  · rw [if_neg e]
theorem back2 {s t : StT} {e f : EvT} (ha : 0 ≤ e.a) (he : f.a = e.a ∧ f.b = e.b ∧ f.c = e.d ∧ f.d = e.c) (h : ap2 s e = (t, 0)) : ∃ u, ap2 t f = (u, 0) ∧ sameS u s = true ∧ u.objs.length = s.objs.length := by
  obtain ⟨h1, h2, h3, h4⟩ := he
  unfold ap2 at h
  split at h
  · have := congrArg Prod.snd h; simp at this
  rename_i n1
  split at h
  · have := congrArg Prod.snd h; simp at this
  rename_i n2
  obtain rfl := congrArg Prod.fst h
  clear h
  have hlt : e.a.toNat < s.objs.length := by omega
  unfold ap2
  simp only [setO_len, h1, h2, h3, h4, setO_at hlt]
  rw [if_neg n1, if_neg (by simp [updI])]
  refine ⟨_, rfl, ?_, by simp [setO_len]⟩
  exact sameS_of (by simp [setO_len]) (sameO_set hlt (Classical.byContradiction n2)) (fun _ _ => rfl) (fun _ _ => rfl) (fun _ _ => rfl)
theorem upd_back (f : Nat → Int) (i : Nat) (x : Int) : updI (updI f i x) i (f i) = f := by
  funext j; unfold updI; by_cases e : j = i
  · subst e; rw [if_pos rfl]
  · rw [if_neg e, if_neg e]
theorem back3 {s t : StT} {e f : EvT} (he : f.a = e.a ∧ f.b = e.b ∧ f.c = e.d ∧ f.d = e.c) (h : ap3 s e = (t, 0)) : ∃ u, ap3 t f = (u, 0) ∧ sameS u s = true ∧ u.objs.length = s.objs.length := by
  obtain ⟨h1, h2, h3, h4⟩ := he
  unfold ap3 at h
  split at h
  · have := congrArg Prod.snd h; simp at this
  rename_i n2
  obtain rfl := congrArg Prod.fst h
  clear h
  have n3 := Classical.byContradiction n2
  unfold ap3
  simp only [h1, h2, h3, h4]
  rw [if_neg (by simp [updI])]
  refine ⟨_, rfl, ?_, rfl⟩
  rw [← n3, upd_back]
  exact sameS_refl s
theorem back4 {s t : StT} {e f : EvT} (he : f.b = e.b ∧ f.c = e.d ∧ f.d = e.c) (h : ap4 s e = (t, 0)) : ∃ u, ap4 t f = (u, 0) ∧ sameS u s = true ∧ u.objs.length = s.objs.length := by
  obtain ⟨h2, h3, h4⟩ := he
  unfold ap4 at h
  split at h
  · have := congrArg Prod.snd h; simp at this
  rename_i n2
  obtain rfl := congrArg Prod.fst h
  clear h
  have n3 := Classical.byContradiction n2
  unfold ap4
  simp only [h2, h3, h4]
  rw [if_neg (by simp [updI])]
  refine ⟨_, rfl, ?_, rfl⟩
  rw [← n3, upd_back]
  exact sameS_refl s
theorem back1 {s t : StT} {e f : EvT} (ha : 0 ≤ e.a) (hc : 0 ≤ e.c) (he : f.a = e.a ∧ f.b = e.d ∧ f.c = e.e ∧ f.d = e.b ∧ f.e = e.c) (h : ap1 s e = (t, 0)) :
    ∃ u, ap1 t f = (u, 0) ∧ sameS { u with objs := setO u.objs e.a.toNat 3 ((s.objs.getD e.a.toNat fun _ => 0) 3) } s = true ∧ u.objs.length = s.objs.length ∧ e.a.toNat < s.objs.length := by
  obtain ⟨h1, h2, h3, h4, h5⟩ := he
  unfold ap1 at h
  split at h
  · have := congrArg Prod.snd h; simp at this
  rename_i n1
  split at h
  · have := congrArg Prod.snd h; simp at this
  rename_i n2
  split at h
  · have := congrArg Prod.snd h; simp at this
  rename_i n3
  obtain rfl := congrArg Prod.fst h
  clear h
  have hlt : e.a.toNat < s.objs.length := by omega
  have g1 : e.c.toNat < (s.lists e.b.toNat).length := by
    have : ¬ ((s.lists e.b.toNat).length : Int) ≤ e.c := fun h => n2 (.inl h)
    omega
  have g2 : (s.lists e.b.toNat).getD e.c.toNat 0 = e.a := Classical.byContradiction fun h => n2 (.inr h)
  have g3 : e.e.toNat ≤ (mv1 s e e.d.toNat).length := by omega
  have hgt : (insL (mv1 s e e.d.toNat) e.e.toNat e.a).getD e.e.toNat 0 = e.a := by
    have := ins_at (mv1 s e e.d.toNat) e.e.toNat e.a g3
    rw [List.getD_eq_getElem?_getD, this, Option.getD_some]
  have hln := ins_len (mv1 s e e.d.toNat) e.e.toNat e.a g3
  have hm1 : ∀ z, mv1 ⟨setO s.objs e.a.toNat 3 e.d, updL (mv1 s e) e.d.toNat (insL (mv1 s e e.d.toNat) e.e.toNat e.a), s.pl, s.gm⟩ f z = mv1 s e z := by
    intro z
    show updL _ f.b.toNat (rmL _ f.c.toNat) z = _
    rw [h2, h3]
    simp only
    by_cases ez : z = e.d.toNat
    · subst ez; rw [updL_at, updL_at, rm_ins _ _ _ g3]
    · rw [updL_ne _ ez, updL_ne _ ez]
  unfold ap1
  simp only [setO_len]
  rw [h1, if_neg n1, h2, h3, h4, h5]
  rw [updL_at, if_neg (by rintro (h | h)
                          · omega
                          · exact h hgt), hm1, if_neg (by
    show ¬ ((mv1 s e e.b.toNat).length : Int) < e.c
    rw [show mv1 s e e.b.toNat = rmL (s.lists e.b.toNat) e.c.toNat from updL_at _ _ _, rm_len _ _ g1]; omega)]
  refine ⟨_, rfl, ?_, by simp [setO_len], hlt⟩
  refine sameS_of (by simp [setO_len]) ?_ (fun z hz => ?_) (fun _ _ => rfl) (fun _ _ => rfl)
  · intro k x y i hi
    simp only
    have e1 : setO (setO (setO s.objs e.a.toNat 3 e.d) e.a.toNat 3 e.b) e.a.toNat 3 ((s.objs.getD e.a.toNat fun _ => 0) 3) = setO (setO s.objs e.a.toNat 3 e.d) e.a.toNat 3 ((s.objs.getD e.a.toNat fun _ => 0) 3) := by
      have hl2 : e.a.toNat < (setO s.objs e.a.toNat 3 e.d).length := by rw [setO_len]; exact hlt
      rw [setO, setO_at hl2, setO, List.set_set, setO]
      congr 1
      funext j; unfold updI; by_cases ej : j = 3
      · rw [if_pos ej, if_pos ej]
      · rw [if_neg ej, if_neg ej, if_neg ej]
    have h9 := sameO_set (x := e.d) (y := (s.objs.getD e.a.toNat fun _ => 0) 3) (j := 3) hlt rfl k (by simp [setO_len]; exact y) y i hi
    rw [List.getElem_of_eq e1]
    exact h9
  · show updL _ _ _ z = _
    by_cases ez : z = e.b.toNat
    · subst ez
      rw [updL_at]
      show insL (mv1 s e e.b.toNat) e.c.toNat e.a = _
      rw [show mv1 s e e.b.toNat = rmL (s.lists e.b.toNat) e.c.toNat from updL_at _ _ _, ← g2]
      exact ins_rm _ _ g1
    · rw [updL_ne _ ez, hm1]
      exact updL_ne _ ez _
theorem apply_back {s t : StT} {e : EvT} (hn : s.objs.length ≤ 400) (h : applyS s e = (t, 0)) (hi : chkE (invE e) = 0) :
    ∃ u, applyS t (invE e) = (u, 0) ∧ sameS (backS s u e) s = true ∧ u.objs.length = s.objs.length ∧ (e.k = 1 → 0 ≤ e.a ∧ e.a.toNat < s.objs.length) := by
  unfold applyS at h
  by_cases hc : chkE e ≠ 0
  · rw [if_pos hc] at h
    have := congrArg Prod.snd h
    exact absurd this hc
  have hc0 : chkE e = 0 := by omega
  rw [if_neg hc] at h
  have hap : ∀ u, applyS t u = if chkE u ≠ 0 then (sT0, chkE u) else if u.k = 0 then ap0 t u else if u.k = 1 then ap1 t u else if u.k = 2 then ap2 t u else if u.k = 3 then ap3 t u else if u.k = 4 then ap4 t u else ap5 t u := fun _ => rfl
  rw [hap, if_neg (by omega)]
  clear hap
  obtain ⟨k, a, b, c, d, f⟩ := e
  rcases chkE_kind hc0 with ⟨hk, h1⟩ | ⟨hk, h1⟩ | ⟨hk, h1⟩ | ⟨hk, h1⟩ | ⟨hk, h1⟩ | ⟨hk, h1⟩
  all_goals simp only at hk h1 h
  all_goals subst hk
  all_goals simp only [Int.reduceEq, if_true, if_false] at h
  · obtain ⟨u, h2, h3, h4⟩ := back0 (e := ⟨0, a, b, c, d, f⟩) (f := ⟨5, a, b, c, d, f⟩) ⟨rfl, rfl, rfl⟩ h
    exact ⟨u, h2, h3, h4, fun h => by cases h⟩
  · obtain ⟨u, h2, h3, h4⟩ := back5 (e := ⟨5, a, b, c, d, f⟩) (f := ⟨0, a, b, c, d, f⟩) hn ⟨rfl, rfl, rfl⟩ h
    exact ⟨u, h2, h3, h4, fun h => by cases h⟩
  · obtain ⟨u, h2, h3, h4, h5⟩ := back1 (e := ⟨1, a, b, c, d, f⟩) (f := ⟨1, a, d, f, b, c⟩) (by simp only; omega) (by simp only; omega) ⟨rfl, rfl, rfl, rfl, rfl⟩ h
    exact ⟨u, h2, h3, h4, fun _ => ⟨h1.1, h5⟩⟩
  · obtain ⟨u, h2, h3, h4⟩ := back2 (e := ⟨2, a, b, c, d, f⟩) (f := ⟨2, a, b, d, c, f⟩) (by simp only; omega) ⟨rfl, rfl, rfl, rfl⟩ h
    exact ⟨u, h2, h3, h4, fun h => by cases h⟩
  · obtain ⟨u, h2, h3, h4⟩ := back3 (e := ⟨3, a, b, c, d, f⟩) (f := ⟨3, a, b, d, c, f⟩) ⟨rfl, rfl, rfl, rfl⟩ h
    exact ⟨u, h2, h3, h4, fun h => by cases h⟩
  · obtain ⟨u, h2, h3, h4⟩ := back4 (e := ⟨4, a, b, c, d, f⟩) (f := ⟨4, a, b, d, c, f⟩) ⟨rfl, rfl, rfl⟩ h
    exact ⟨u, h2, h3, h4, fun h => by cases h⟩
end Go.Proofs.Ythedopnhhanknaa
namespace Go.Proofs.Ythedopnhhanknaa
open Go.RowKit Ex
set_option maxRecDepth 100000
theorem applyS_ok {s : StT} {e : EvT} (h : chkE e = 0) : applyS s e = if e.k = 0 then ap0 s e else if e.k = 1 then ap1 s e else if e.k = 2 then ap2 s e else if e.k = 3 then ap3 s e else if e.k = 4 then ap4 s e else ap5 s e := by
  unfold applyS; rw [if_neg (by omega)]
theorem apply_bad {s : StT} {e : EvT} (h : (applyS s e).2 ≠ 0) : (applyS s e).1 = sT0 := by
  have b0 : ∀ r : StT × Int, r.2 ≠ 0 → (r = ap0 s e ∨ r = ap1 s e ∨ r = ap2 s e ∨ r = ap3 s e ∨ r = ap4 s e ∨ r = ap5 s e) → r.1 = sT0 := by
    rintro r hr (rfl | rfl | rfl | rfl | rfl | rfl)
    · unfold ap0 at hr ⊢; split <;> simp_all
    · unfold ap1 at hr ⊢
      split
      · rfl
      rename_i n1
      rw [if_neg n1] at hr
      split
      · rfl
      rename_i n2
      rw [if_neg n2] at hr
      split
      · rfl
      rename_i n3
      rw [if_neg n3] at hr
      exact absurd rfl hr
    · unfold ap2 at hr ⊢; repeat' split
      all_goals first | rfl | (exfalso; simp_all)
    · unfold ap3 at hr ⊢; split <;> simp_all
    · unfold ap4 at hr ⊢; split <;> simp_all
    · unfold ap5 at hr ⊢; split
      · rfl
      · rename_i hq; rw [if_neg hq] at hr; exact absurd rfl hr
  by_cases hc : chkE e = 0
  · rw [applyS_ok hc] at h ⊢
    refine b0 _ h ?_
    repeat' split
    all_goals simp
  · unfold applyS; rw [if_pos hc]
theorem updL_len (L : Nat → List Int) (z : Nat) (l : List Int) (m : Nat) (h : l.length ≤ (L z).length + m) (y : Nat) : (updL L z l y).length ≤ (L y).length + m := by
  by_cases e : y = z
  · subst e; rw [updL_at]; exact h
  · rw [updL_ne _ e]; omega
theorem rmL_le (l : List Int) (i : Nat) : (rmL l i).length ≤ l.length := by
  unfold rmL; rw [List.length_append, List.length_take, List.length_drop]; omega
theorem insL_le (l : List Int) (i : Nat) (x : Int) : (insL l i x).length ≤ l.length + 1 := by
  unfold insL; simp; omega
theorem ap_len (s : StT) (e : EvT) : (applyS s e).1.objs.length ≤ s.objs.length + 1 ∧ ∀ z, ((applyS s e).1.lists z).length ≤ (s.lists z).length + 1 := by
  have h0 : (sT0.objs.length ≤ s.objs.length + 1 ∧ ∀ z, (sT0.lists z).length ≤ (s.lists z).length + 1) := ⟨by simp [sT0], fun z => by simp [sT0]⟩
  by_cases hb : (applyS s e).2 = 0
  case neg => rw [apply_bad hb]; exact h0
  by_cases hc : chkE e = 0
  case neg => unfold applyS; rw [if_pos hc]; exact h0
  rw [applyS_ok hc]
  repeat' split
  · unfold ap0; split
    · exact h0
    · exact ⟨by simp, fun z => updL_len _ _ _ 1 (by simp) z⟩
  · unfold ap1; repeat' split
    · exact h0
    · exact h0
    · exact h0
    · refine ⟨by simp [setO_len], fun z => ?_⟩
      have h1 := updL_len s.lists e.b.toNat (rmL (s.lists e.b.toNat) e.c.toNat) 0 (rmL_le _ _)
      have h2 := updL_len (mv1 s e) e.d.toNat (insL (mv1 s e e.d.toNat) e.e.toNat e.a) 1 (insL_le _ _ _) z
      have h3 : (mv1 s e z).length ≤ (s.lists z).length + 0 := h1 z
      simp only
      omega
  · unfold ap2; repeat' split
    · exact h0
    · exact h0
    · exact ⟨by simp [setO_len], fun z => Nat.le_succ _⟩
  · unfold ap3; split
    · exact h0
    · exact ⟨Nat.le_succ _, fun z => Nat.le_succ _⟩
  · unfold ap4; split
    · exact h0
    · exact ⟨Nat.le_succ _, fun z => Nat.le_succ _⟩
  · unfold ap5; split
    · exact h0
    · exact ⟨by simp; omega, fun z => updL_len _ _ _ 1 (by simp; omega) z⟩
end Go.Proofs.Ythedopnhhanknaa
namespace Go.Proofs.Ythedopnhhanknaa
open Go.RowKit
section
variable {P : Program} {md : Region.Mode} {ops : Array Oper} {Q : Exit → Act → World → Prop} {S T : World → Prop}
/-- What holds under a condition that says more holds under one that says less. -/
theorem anyH_mono (h : ∀ w, S w → T w) : ∀ (fuel : Nat) (listed : Array Bool) (a : Act) (w : World), wpAnyH P md ops Q S fuel listed a w → wpAnyH P md ops Q T fuel listed a w
  | 0, _, _, _, hh => hh
  | fuel + 1, _, _, _, hh => ⟨hh.1, fun i hi => wpOp_mono (fun a' w' h' => ⟨h _ h'.1, anyH_mono h fuel _ a' w' h'.2⟩) (hh.2 i hi)⟩
/-- Behind a call that leaves what was there: from now on nothing turns of what is there now. -/
theorem anyH_rebase {b : World} {fuel : Nat} {listed : Array Bool} {a : Act} {w : World} (hb : Below b.heap.size b w)
    (h : Below w.heap.size w w → wpAnyH P md ops Q (fun W => Below w.heap.size w W) fuel listed a w) : wpAnyH P md ops Q (fun W => Below b.heap.size b W) fuel listed a w :=
  anyH_mono (fun _ hW => hb.trans (hW.mono hb.size)) _ _ _ _ (h (Below.refl _ _))
theorem region_below {id : Nat} {a : Act} {w : World} (hm : P.follows .mixedOrders = true)
    (h : Below w.heap.size w w.drew → wpAnyH P .any ops Q (fun W => Below w.heap.size w W) ops.size (Array.replicate ops.size false) a w.drew) : (Code.region id ops true).wp P Q a w :=
  wp_region_held hm (h (Below.refl _ _).drew)
end
end Go.Proofs.Ythedopnhhanknaa
namespace Go.Proofs.Ythedopnhhanknaa
open Go.RowKit Ex
set_option maxRecDepth 100000
/-- An event's six cells. -/
def evC (e : EvT) : Array Value := #[.int .i64 e.k, .int .i64 e.a, .int .i64 e.b, .int .i64 e.c, .int .i64 e.d, .int .i64 e.e]
def EvB (w : World) (g : Nat) (e : EvT) : Prop := w.heap[g]? = some (.cells (evC e) 31 (0, 0))
theorem evC_one (e : EvT) : (evC e).all (·.oneCell') = true := by simp [evC, Value.oneCell']
theorem ev_size (e : EvT) : (Try.prog.info? 31).map (·.size) = some (evC e).size := by kernel_rfl
def ev0 : EvT := ⟨0, 0, 0, 0, 0, 0⟩
theorem ev_box (wr : World) (e : EvT) : ∃ w3, w3 = (wr.alloc (.cells (evC ev0) 31)).setRow wr.heap.size (evC e) ∧ EvB w3 wr.heap.size e ∧ Below wr.heap.size wr w3 := by
  refine ⟨_, rfl, ?_, below_setRow ((Below.refl _ _).alloc (Nat.le_refl _) _) _ _ (Nat.le_refl _)⟩
  unfold EvB
  exact setRow_heap _ _ _ _ _ _ (heap_alloc_new _ _)
theorem ev0_is : #[Value.int .i64 0, .int .i64 0, .int .i64 0, .int .i64 0, .int .i64 0, .int .i64 0] = evC ev0 := rfl
theorem EvB.cells {w : World} {g : Nat} {e : EvT} (h : EvB w g e) : w.cell? ⟨g, 0, none⟩ = some (.int .i64 e.k) ∧ w.cell? ⟨g, 1, none⟩ = some (.int .i64 e.a) ∧ w.cell? ⟨g, 2, none⟩ = some (.int .i64 e.b) ∧ w.cell? ⟨g, 3, none⟩ = some (.int .i64 e.c) ∧ w.cell? ⟨g, 4, none⟩ = some (.int .i64 e.d) ∧ w.cell? ⟨g, 5, none⟩ = some (.int .i64 e.e) :=
  ⟨cell_of_row w g 0 _ _ _ h, cell_of_row w g 1 _ _ _ h, cell_of_row w g 2 _ _ _ h, cell_of_row w g 3 _ _ _ h, cell_of_row w g 4 _ _ _ h, cell_of_row w g 5 _ _ _ h⟩
theorem EvB.lt {w : World} {g : Nat} {e : EvT} (h : EvB w g e) : g < w.heap.size := (Array.getElem?_eq_some_iff.1 h).1
theorem EvB.keep {w w' : World} {g : Nat} {e : EvT} (h : EvB w g e) (hb : Below w.heap.size w w') : EvB w' g e := (hb.block g h.lt).trans h
theorem results_cellE {P : Program} {fn : Func} {p : Tmp} {ty : TypeId} (h : fn.results = #[.cell p ty]) (tmps : Array Value) (w : World) (g : Nat) (t : TypeId) (cs : Array Value) (fr : Nat × Nat) (d : TypeDesc)
    (hp : tmps.getD p undef = .pointer (some ⟨g, 0, none⟩)) (hg : w.heap[g]? = some (.cells cs t fr))
    (hu : P.underlying ty = some d) (hd : (match d with | .struct _ | .array _ _ => true | _ => false) = true) (hi : (P.info? ty).map (·.size) = some cs.size) :
    (results fn tmps).run P w = .ok (.agg cs) w := by
  have hp' : tmps[p]?.getD undef = .pointer (some ⟨g, 0, none⟩) := by simpa using hp
  simp [results, h, hp', asAddr, run_loadVar_row w g t ty cs fr d hg hu hd hi]
theorem EvB.set_ {w : World} {g : Nat} {e e' : EvT} (h : EvB w g e) (i : Nat) (v : Value) (he : (evC e).setIfInBounds i v = evC e') : EvB (w.setCell ⟨g, i, none⟩ v) g e' := by
  unfold EvB
  rw [heap_setCell_same w g i _ _ _ h, he]
theorem EvB.far {w : World} {g g' : Nat} {e : EvT} (h : EvB w g e) (hg : g ≠ g') (i : Nat) (v : Value) : EvB (w.setCell ⟨g', i, none⟩ v) g e :=
  (heap_setCell_other w ⟨g', i, none⟩ g v (by simpa using hg)).trans h
set_option linter.unusedSimpArgs false in
set_option maxHeartbeats 0 in
theorem invRef_any (e : EvT) (w : World) : Calls Try.prog 19 #[evV e] w fun en w' => en = .returned (evV (invE e)) ∧ Below w.heap.size w w' := by
  obtain ⟨k, a, b, c, d, f⟩ := e
  unfold evV
  simp only
  go_enter Try.func19, Try.ntmps19
  go_upto_region 1 with fail
  obtain ⟨w2, hw2⟩ : ∃ w2, w2 = (w.alloc (.cells (evC ⟨k, a, b, c, d, f⟩) 31)).alloc (.cells (evC ev0) 31) := ⟨_, rfl⟩
  have hb1 : Below (w.alloc (.cells (evC ⟨k, a, b, c, d, f⟩) 31)).heap.size (w.alloc (.cells (evC ⟨k, a, b, c, d, f⟩) 31)) w2 := by rw [hw2]; exact (Below.refl _ _).alloc (Nat.le_refl _) _
  have hb0 : Below w.heap.size w (w.alloc (.cells (evC ⟨k, a, b, c, d, f⟩) 31)) := (Below.refl _ _).alloc (Nat.le_refl _) _
  have hE1 : EvB w2 w.heap.size ⟨k, a, b, c, d, f⟩ := EvB.keep (heap_alloc_new _ _) hb1
  have hE2 : EvB w2 (w.heap.size + 1) ev0 := by rw [hw2]; have := heap_alloc_new (w.alloc (.cells (evC ⟨k, a, b, c, d, f⟩) 31)) (.cells (evC ev0) 31); rwa [World.size_alloc] at this
  have hb2 := keepB hb1 hb0
  show Code.wp _ _ _ _ ((w.alloc (.cells (evC ⟨k, a, b, c, d, f⟩) 31)).alloc (.cells (evC ev0) 31))
  rw [← hw2]
  have hsz2 : w.heap.size + 1 < w2.heap.size := by rw [hw2]; simp
  clear hw2 hb1 hb0
  have hsz := ev_size ⟨k, a, b, c, d, f⟩
  have hone := evC_one ⟨k, a, b, c, d, f⟩
  have hs6 : (evC ev0).size = (evC ⟨k, a, b, c, d, f⟩).size := rfl
  have hz6 := ev0_is
  have hnew : (w2.alloc (.cells (evC ev0) 31)).heap[w2.heap.size]? = some (.cells (evC ev0) 31 (0, 0)) := heap_alloc_new _ _
  obtain ⟨es, hes⟩ : ∃ es, es = evC ⟨k, a, b, c, d, f⟩ := ⟨_, rfl⟩
  have HEs := Lib.hid hes
  have hE1' : w2.heap[w.heap.size]? = some (.cells es 31 (0, 0)) := by rw [hes]; exact hE1
  rw [← hes] at hsz hone hs6
  clear hes
  go_upto_region 2 with (first
    | (refine wpList_load_row rfl 31 (.tmp 1) rfl w.heap.size rfl 31 _ (0, 0) _ hE1' Try.underlying31 rfl hsz ?_)
    | (refine wpList_store_row rfl 31 (.tmp 3) (.tmp 4) rfl w2.heap.size _ rfl rfl 31 (evC ev0) hnew hsz hs6 hone ?_))
  rw [HEs.out]
  obtain ⟨w3, hw3, hE3, hb3⟩ := ev_box w2 ⟨k, a, b, c, d, f⟩
  rw [← hw3]
  replace hE1 := hE1.keep hb3
  replace hE2 := hE2.keep hb3
  have hl2 := hE2.lt
  have hlw := hb2.size
  have hlt2 : w.heap.size + 1 < w2.heap.size := by have : w.heap.size + 1 < w2.heap.size := hsz2; exact this
  replace hb3 := keepB hb3 hb2
  obtain ⟨g1, hg1⟩ : ∃ g1, g1 = w.heap.size := ⟨_, rfl⟩
  obtain ⟨g2, hg2⟩ : ∃ g2, g2 = w.heap.size + 1 := ⟨_, rfl⟩
  obtain ⟨g3, hg3⟩ : ∃ g3, g3 = w2.heap.size := ⟨_, rfl⟩
  have h12 : g1 < g2 := by omega
  have h23 : g2 < g3 := by omega
  have hwg2 : w.heap.size ≤ g2 := by omega
  have hwg3 : w.heap.size ≤ g3 := by omega
  rw [← hg2] at hE2
  rw [← hg3] at hE3
  rw [← hg1] at hE1
  rw [← hg1, show g1 + 1 = g2 by omega, ← hg3]
  clear hw3 hg1 hg2 hg3 hnew hE1' hs6 hone hsz HEs hb2 hl2 hlw hlt2 hsz2 hz6
  obtain ⟨c0, c1, c2, c3, c4, c5⟩ := hE1.cells
  obtain ⟨d0, d1, d2, d3, d4, d5⟩ := hE3.cells
  have f0 := frozen_of_row w3 g3 0 _ _ hE3
  simp only at c0 c1 c2 c3 c4 c5 d0 d1 d2 d3 d4 d5
  by_cases hk0 : k = 0
  · subst hk0
    have HI := Lib.hid (show invE ⟨0, a, b, c, d, f⟩ = ⟨5, a, b, c, d, f⟩ from rfl)
    have hS := hE3.set_ 0 (.int .i64 5) (e' := ⟨5, a, b, c, d, f⟩) rfl
    have hZ := hE2.far (show g2 ≠ g3 by omega) 0 (.int .i64 5)
    have hbS := hb3.setCell (p := ⟨g3, 0, none⟩) (show w.heap.size ≤ g3 from hwg3) (.int .i64 5)
    go_upto_region 13 with fail
    have hsz3 := ev_size (⟨5, a, b, c, d, f⟩)
    have hone3 := evC_one (⟨5, a, b, c, d, f⟩)
    have hs36 : (evC ev0).size = (evC (⟨5, a, b, c, d, f⟩)).size := rfl
    clear c0 c1 c2 c3 c4 c5 d0 d1 d2 d3 d4 d5 f0
    obtain ⟨es, hes⟩ : ∃ es, es = evC (⟨5, a, b, c, d, f⟩) := ⟨_, rfl⟩
    have HEs := Lib.hid hes
    unfold EvB at hS hZ
    rw [← hes] at hS hsz3 hone3 hs36
    clear hes
    go_wp2_with (first
      | (refine wpList_load_row rfl 31 (.tmp 3) rfl g3 rfl 31 _ (0, 0) _ hS Try.underlying31 rfl hsz3 ?_)
      | (refine wpList_store_row rfl 31 (.tmp 2) (.tmp 37) rfl g2 _ rfl rfl 31 (evC ev0) hZ hsz3 hs36 hone3 ?_))
    refine bodyPost_ret (v := .agg es) ?_ rfl ⟨by rw [HI.out, HEs.out]; rfl, below_setRow hbS _ _ hwg2⟩
    exact results_cellE (ty := 31) (p := 2) (by kernel_rfl) _ _ g2 31 _ (0, 0) _ rfl (setRow_heap _ _ _ _ _ _ hZ) Try.underlying31 rfl hsz3
  by_cases hk5 : k = 5
  · subst hk5
    have HI := Lib.hid (show invE ⟨5, a, b, c, d, f⟩ = ⟨0, a, b, c, d, f⟩ from rfl)
    have hS := hE3.set_ 0 (.int .i64 0) (e' := ⟨0, a, b, c, d, f⟩) rfl
    have hZ := hE2.far (show g2 ≠ g3 by omega) 0 (.int .i64 0)
    have hbS := hb3.setCell (p := ⟨g3, 0, none⟩) (show w.heap.size ≤ g3 from hwg3) (.int .i64 0)
    go_upto_region 13 with fail
    have hsz3 := ev_size (⟨0, a, b, c, d, f⟩)
    have hone3 := evC_one (⟨0, a, b, c, d, f⟩)
    have hs36 : (evC ev0).size = (evC (⟨0, a, b, c, d, f⟩)).size := rfl
    clear c0 c1 c2 c3 c4 c5 d0 d1 d2 d3 d4 d5 f0
    obtain ⟨es, hes⟩ : ∃ es, es = evC (⟨0, a, b, c, d, f⟩) := ⟨_, rfl⟩
    have HEs := Lib.hid hes
    unfold EvB at hS hZ
    rw [← hes] at hS hsz3 hone3 hs36
    clear hes
    go_wp2_with (first
      | (refine wpList_load_row rfl 31 (.tmp 3) rfl g3 rfl 31 _ (0, 0) _ hS Try.underlying31 rfl hsz3 ?_)
      | (refine wpList_store_row rfl 31 (.tmp 2) (.tmp 37) rfl g2 _ rfl rfl 31 (evC ev0) hZ hsz3 hs36 hone3 ?_))
    refine bodyPost_ret (v := .agg es) ?_ rfl ⟨by rw [HI.out, HEs.out]; rfl, below_setRow hbS _ _ hwg2⟩
    exact results_cellE (ty := 31) (p := 2) (by kernel_rfl) _ _ g2 31 _ (0, 0) _ rfl (setRow_heap _ _ _ _ _ _ hZ) Try.underlying31 rfl hsz3
  have n0 : (k == 0) = false := beq_eq_false_iff_ne.2 hk0
  have n5 : (k == 5) = false := beq_eq_false_iff_ne.2 hk5
  by_cases hk1 : k = 1
  · subst hk1
    go_upto_region 8 with fail
    have HI := Lib.hid (show invE ⟨1, a, b, c, d, f⟩ = ⟨1, a, d, f, b, c⟩ from rfl)
    have hA := hE3.set_ 2 (.int .i64 d) (e' := ⟨1, a, d, c, d, f⟩) rfl
    have hB := hA.set_ 3 (.int .i64 f) (e' := ⟨1, a, d, f, d, f⟩) rfl
    have hC := hB.set_ 4 (.int .i64 b) (e' := ⟨1, a, d, f, b, f⟩) rfl
    have hS := hC.set_ 5 (.int .i64 c) (e' := ⟨1, a, d, f, b, c⟩) rfl
    have hZ := (((hE2.far (show g2 ≠ g3 by omega) 2 (.int .i64 d)).far (show g2 ≠ g3 by omega) 3 (.int .i64 f)).far (show g2 ≠ g3 by omega) 4 (.int .i64 b)).far (show g2 ≠ g3 by omega) 5 (.int .i64 c)
    have hbS := (((hb3.setCell (p := ⟨g3, 2, none⟩) (show w.heap.size ≤ g3 from hwg3) (.int .i64 d)).setCell (p := ⟨g3, 3, none⟩) (show w.heap.size ≤ g3 from hwg3) (.int .i64 f)).setCell (p := ⟨g3, 4, none⟩) (show w.heap.size ≤ g3 from hwg3) (.int .i64 b)).setCell (p := ⟨g3, 5, none⟩) (show w.heap.size ≤ g3 from hwg3) (.int .i64 c)
    replace hbS := hbS.drew
    have e1 := hE1.far (show g1 ≠ g3 by omega) 2 (.int .i64 d)
    have e2 := e1.far (show g1 ≠ g3 by omega) 3 (.int .i64 f)
    have e3 := e2.far (show g1 ≠ g3 by omega) 4 (.int .i64 b)
    have e4 := e3.far (show g1 ≠ g3 by omega) 5 (.int .i64 c)
    have x2 := hE3.cells.2.2.1
    have y2 := frozen_of_row w3 g3 2 _ _ hE3
    have x3 := hA.cells.2.2.2.1
    have y3 := frozen_of_row _ g3 3 _ _ hA
    have x4 := hB.cells.2.2.2.2.1
    have y4 := frozen_of_row _ g3 4 _ _ hB
    have x5 := hC.cells.2.2.2.2.2
    have y5 := frozen_of_row _ g3 5 _ _ hC
    have l2 : ∀ W, EvB W g1 ⟨1, a, b, c, d, f⟩ → W.cell? ⟨g1, 2, none⟩ = some (.int .i64 b) := fun W h => h.cells.2.2.1
    have l3 : ∀ W, EvB W g1 ⟨1, a, b, c, d, f⟩ → W.cell? ⟨g1, 3, none⟩ = some (.int .i64 c) := fun W h => h.cells.2.2.2.1
    have l4 : ∀ W, EvB W g1 ⟨1, a, b, c, d, f⟩ → W.cell? ⟨g1, 4, none⟩ = some (.int .i64 d) := fun W h => h.cells.2.2.2.2.1
    have l5 : ∀ W, EvB W g1 ⟨1, a, b, c, d, f⟩ → W.cell? ⟨g1, 5, none⟩ = some (.int .i64 f) := fun W h => h.cells.2.2.2.2.2
    refine wp_region_held_drew (S := fun W => EvB W g1 ⟨1, a, b, c, d, f⟩) (by kernel_rfl) (show EvB w3.drew g1 _ from hE1) (fun hHeld => ?_)
    refine wpAnyH_take (i := 0) (v := ?_) rfl (by kernel_rfl) (by kernel_rfl) (by kernel_rfl) (fun _ _ _ h => h) (Or.inl ⟨by rfl, ?_⟩) hHeld ?_
    rotate_left
    · (intro w hSw; go_simp; (try with_reducible rfl))
    simp only [Act.put, List.getElem_toArray, List.getElem_cons_zero, List.getElem_cons_succ, List.setIfInBounds_toArray, List.set_cons_zero, List.set_cons_succ]
    refine wpAnyH_take (i := 1) (v := ?_) rfl (by kernel_rfl) (by kernel_rfl) (by kernel_rfl) (fun _ _ _ h => h) (Or.inl ⟨by rfl, ?_⟩) hHeld ?_
    rotate_left
    · (intro w hSw; go_simp; (try with_reducible rfl))
    simp only [Act.put, List.getElem_toArray, List.getElem_cons_zero, List.getElem_cons_succ, List.setIfInBounds_toArray, List.set_cons_zero, List.set_cons_succ]
    refine wpAnyH_take (i := 2) (v := ?_) rfl (by kernel_rfl) (by kernel_rfl) (by kernel_rfl) (fun _ _ _ h => h) (Or.inl ⟨by rfl, ?_⟩) hHeld ?_
    rotate_left
    · (intro w hSw; go_simp; (try with_reducible rfl))
    simp only [Act.put, List.getElem_toArray, List.getElem_cons_zero, List.getElem_cons_succ, List.setIfInBounds_toArray, List.set_cons_zero, List.set_cons_succ]
    refine wpAnyH_take (i := 3) (v := ?_) rfl (by kernel_rfl) (by kernel_rfl) (by kernel_rfl) (fun _ _ _ h => h) (Or.inl ⟨by rfl, ?_⟩) hHeld ?_
    rotate_left
    · (intro w hSw; go_simp; (try with_reducible rfl))
    simp only [Act.put, List.getElem_toArray, List.getElem_cons_zero, List.getElem_cons_succ, List.setIfInBounds_toArray, List.set_cons_zero, List.set_cons_succ]
    refine wpAnyH_take (i := 4) (v := ?_) rfl (by kernel_rfl) (by kernel_rfl) (by kernel_rfl) (fun _ _ _ h => h) (Or.inl ⟨by rfl, ?_⟩) hHeld ?_
    rotate_left
    · (intro w hSw; go_simp; (try with_reducible rfl))
    simp only [Act.put, List.getElem_toArray, List.getElem_cons_zero, List.getElem_cons_succ, List.setIfInBounds_toArray, List.set_cons_zero, List.set_cons_succ]
    refine wpAnyH_take (i := 5) (v := ?_) rfl (by kernel_rfl) (by kernel_rfl) (by kernel_rfl) (fun _ _ _ h => h) (Or.inl ⟨by rfl, ?_⟩) hHeld ?_
    rotate_left
    · (intro w hSw; go_simp; (try with_reducible rfl))
    simp only [Act.put, List.getElem_toArray, List.getElem_cons_zero, List.getElem_cons_succ, List.setIfInBounds_toArray, List.set_cons_zero, List.set_cons_succ]
    refine wpAnyH_take (i := 6) (v := ?_) rfl (by kernel_rfl) (by kernel_rfl) (by kernel_rfl) (fun _ _ _ h => h) (Or.inl ⟨by rfl, ?_⟩) hHeld ?_
    rotate_left
    · (intro w hSw; go_simp; (try with_reducible rfl))
    simp only [Act.put, List.getElem_toArray, List.getElem_cons_zero, List.getElem_cons_succ, List.setIfInBounds_toArray, List.set_cons_zero, List.set_cons_succ]
    refine wpAnyH_take (i := 7) (v := ?_) rfl (by kernel_rfl) (by kernel_rfl) (by kernel_rfl) (fun _ _ _ h => h) (Or.inl ⟨by rfl, ?_⟩) hHeld ?_
    rotate_left
    · (intro w hSw; go_simp; (try with_reducible rfl))
    simp only [Act.put, List.getElem_toArray, List.getElem_cons_zero, List.getElem_cons_succ, List.setIfInBounds_toArray, List.set_cons_zero, List.set_cons_succ]
    refine wpAnyH_take (i := 8) (v := ?_) rfl (by kernel_rfl) (by kernel_rfl) (by kernel_rfl) (fun _ _ _ h => h) (Or.inl ⟨by rfl, ?_⟩) hHeld ?_
    rotate_left
    · (intro w hSw; go_simp; (try with_reducible rfl))
    simp only [Act.put, List.getElem_toArray, List.getElem_cons_zero, List.getElem_cons_succ, List.setIfInBounds_toArray, List.set_cons_zero, List.set_cons_succ]
    refine wpAnyH_ready (rs := [9]) (by kernel_rfl) (by simp) ?_
    refine AllReadyH.cons rfl (fun K hK => ?_) AllReadyH.nil
    simp only [List.getElem_toArray, List.getElem_cons_zero, List.getElem_cons_succ]
    go_simp
    refine hK.out _ _ e1 (fun _ => ?_)
    try simp only [Act.put, List.setIfInBounds_toArray, List.set_cons_zero, List.set_cons_succ]
    clear hK K
    replace hHeld := e1
    refine wpAnyH_take (i := 10) (v := ?_) rfl (by kernel_rfl) (by kernel_rfl) (by kernel_rfl) (fun _ _ _ h => h) (Or.inl ⟨by rfl, ?_⟩) hHeld ?_
    rotate_left
    · (intro w hSw; go_simp; (try with_reducible rfl))
    simp only [Act.put, List.getElem_toArray, List.getElem_cons_zero, List.getElem_cons_succ, List.setIfInBounds_toArray, List.set_cons_zero, List.set_cons_succ]
    refine wpAnyH_ready (rs := [11]) (by kernel_rfl) (by simp) ?_
    refine AllReadyH.cons rfl (fun K hK => ?_) AllReadyH.nil
    simp only [List.getElem_toArray, List.getElem_cons_zero, List.getElem_cons_succ]
    go_simp
    refine hK.out _ _ e2 (fun _ => ?_)
    try simp only [Act.put, List.setIfInBounds_toArray, List.set_cons_zero, List.set_cons_succ]
    clear hK K
    replace hHeld := e2
    refine wpAnyH_take (i := 12) (v := ?_) rfl (by kernel_rfl) (by kernel_rfl) (by kernel_rfl) (fun _ _ _ h => h) (Or.inl ⟨by rfl, ?_⟩) hHeld ?_
    rotate_left
    · (intro w hSw; go_simp; (try with_reducible rfl))
    simp only [Act.put, List.getElem_toArray, List.getElem_cons_zero, List.getElem_cons_succ, List.setIfInBounds_toArray, List.set_cons_zero, List.set_cons_succ]
    refine wpAnyH_ready (rs := [13]) (by kernel_rfl) (by simp) ?_
    refine AllReadyH.cons rfl (fun K hK => ?_) AllReadyH.nil
    simp only [List.getElem_toArray, List.getElem_cons_zero, List.getElem_cons_succ]
    go_simp
    refine hK.out _ _ e3 (fun _ => ?_)
    try simp only [Act.put, List.setIfInBounds_toArray, List.set_cons_zero, List.set_cons_succ]
    clear hK K
    replace hHeld := e3
    refine wpAnyH_take (i := 14) (v := ?_) rfl (by kernel_rfl) (by kernel_rfl) (by kernel_rfl) (fun _ _ _ h => h) (Or.inl ⟨by rfl, ?_⟩) hHeld ?_
    rotate_left
    · (intro w hSw; go_simp; (try with_reducible rfl))
    simp only [Act.put, List.getElem_toArray, List.getElem_cons_zero, List.getElem_cons_succ, List.setIfInBounds_toArray, List.set_cons_zero, List.set_cons_succ]
    refine wpAnyH_ready (rs := [15]) (by kernel_rfl) (by simp) ?_
    refine AllReadyH.cons rfl (fun K hK => ?_) AllReadyH.nil
    simp only [List.getElem_toArray, List.getElem_cons_zero, List.getElem_cons_succ]
    go_simp
    refine hK.out _ _ e4 (fun _ => ?_)
    try simp only [Act.put, List.setIfInBounds_toArray, List.set_cons_zero, List.set_cons_succ]
    clear hK K
    replace hHeld := e4
    refine wpAnyH_done (by kernel_rfl) ?_ _
    clear hA hB hC e1 e2 e3 e4 x2 y2 x3 y3 x4 y4 x5 y5 l2 l3 l4 l5 hHeld
    go_upto_region 13 with fail
    have hsz3 := ev_size (⟨1, a, d, f, b, c⟩)
    have hone3 := evC_one (⟨1, a, d, f, b, c⟩)
    have hs36 : (evC ev0).size = (evC (⟨1, a, d, f, b, c⟩)).size := rfl
    clear c0 c1 c2 c3 c4 c5 d0 d1 d2 d3 d4 d5 f0
    obtain ⟨es, hes⟩ : ∃ es, es = evC (⟨1, a, d, f, b, c⟩) := ⟨_, rfl⟩
    have HEs := Lib.hid hes
    unfold EvB at hS hZ
    rw [← hes] at hS hsz3 hone3 hs36
    clear hes
    go_wp2_with (first
      | (refine wpList_load_row rfl 31 (.tmp 3) rfl g3 rfl 31 _ (0, 0) _ hS Try.underlying31 rfl hsz3 ?_)
      | (refine wpList_store_row rfl 31 (.tmp 2) (.tmp 37) rfl g2 _ rfl rfl 31 (evC ev0) hZ hsz3 hs36 hone3 ?_))
    refine bodyPost_ret (v := .agg es) ?_ rfl ⟨by rw [HI.out, HEs.out]; rfl, below_setRow hbS _ _ hwg2⟩
    exact results_cellE (ty := 31) (p := 2) (by kernel_rfl) _ _ g2 31 _ (0, 0) _ rfl (setRow_heap _ _ _ _ _ _ hZ) Try.underlying31 rfl hsz3
  have n1 : (k == 1) = false := beq_eq_false_iff_ne.2 hk1
  by_cases hk2 : k = 2 ∨ k = 3 ∨ k = 4
  · rcases hk2 with rfl | rfl | rfl
    · skip
      have HI := Lib.hid (show invE ⟨2, a, b, c, d, f⟩ = ⟨2, a, b, d, c, f⟩ from rfl)
      go_upto_region 12 with fail
      have hA := hE3.set_ 3 (.int .i64 d) (e' := ⟨2, a, b, d, d, f⟩) rfl
      have hS := hA.set_ 4 (.int .i64 c) (e' := ⟨2, a, b, d, c, f⟩) rfl
      have hZ := (hE2.far (show g2 ≠ g3 by omega) 3 (.int .i64 d)).far (show g2 ≠ g3 by omega) 4 (.int .i64 c)
      have hbS := (hb3.setCell (p := ⟨g3, 3, none⟩) (show w.heap.size ≤ g3 from hwg3) (.int .i64 d)).setCell (p := ⟨g3, 4, none⟩) (show w.heap.size ≤ g3 from hwg3) (.int .i64 c)
      replace hbS := hbS.drew
      have e1 := hE1.far (show g1 ≠ g3 by omega) 3 (.int .i64 d)
      have e2 := e1.far (show g1 ≠ g3 by omega) 4 (.int .i64 c)
      have x2 := hE3.cells.2.2.2.1
      have y2 := frozen_of_row w3 g3 3 _ _ hE3
      have x3 := hA.cells.2.2.2.2.1
      have y3 := frozen_of_row _ g3 4 _ _ hA
      have l3 : ∀ W, EvB W g1 ⟨2, a, b, c, d, f⟩ → W.cell? ⟨g1, 3, none⟩ = some (.int .i64 c) := fun W h => h.cells.2.2.2.1
      have l4 : ∀ W, EvB W g1 ⟨2, a, b, c, d, f⟩ → W.cell? ⟨g1, 4, none⟩ = some (.int .i64 d) := fun W h => h.cells.2.2.2.2.1
      refine wp_region_held_drew (S := fun W => EvB W g1 ⟨2, a, b, c, d, f⟩) (by kernel_rfl) (show EvB w3.drew g1 _ from hE1) (fun hHeld => ?_)
      refine wpAnyH_take (i := 0) (v := ?_) rfl (by kernel_rfl) (by kernel_rfl) (by kernel_rfl) (fun _ _ _ h => h) (Or.inl ⟨by rfl, ?_⟩) hHeld ?_
      rotate_left
      · (intro w hSw; go_simp; (try with_reducible rfl))
      simp only [Act.put, List.getElem_toArray, List.getElem_cons_zero, List.getElem_cons_succ, List.setIfInBounds_toArray, List.set_cons_zero, List.set_cons_succ]
      refine wpAnyH_take (i := 1) (v := ?_) rfl (by kernel_rfl) (by kernel_rfl) (by kernel_rfl) (fun _ _ _ h => h) (Or.inl ⟨by rfl, ?_⟩) hHeld ?_
      rotate_left
      · (intro w hSw; go_simp; (try with_reducible rfl))
      simp only [Act.put, List.getElem_toArray, List.getElem_cons_zero, List.getElem_cons_succ, List.setIfInBounds_toArray, List.set_cons_zero, List.set_cons_succ]
      refine wpAnyH_take (i := 2) (v := ?_) rfl (by kernel_rfl) (by kernel_rfl) (by kernel_rfl) (fun _ _ _ h => h) (Or.inl ⟨by rfl, ?_⟩) hHeld ?_
      rotate_left
      · (intro w hSw; go_simp; (try with_reducible rfl))
      simp only [Act.put, List.getElem_toArray, List.getElem_cons_zero, List.getElem_cons_succ, List.setIfInBounds_toArray, List.set_cons_zero, List.set_cons_succ]
      refine wpAnyH_take (i := 3) (v := ?_) rfl (by kernel_rfl) (by kernel_rfl) (by kernel_rfl) (fun _ _ _ h => h) (Or.inl ⟨by rfl, ?_⟩) hHeld ?_
      rotate_left
      · (intro w hSw; go_simp; (try with_reducible rfl))
      simp only [Act.put, List.getElem_toArray, List.getElem_cons_zero, List.getElem_cons_succ, List.setIfInBounds_toArray, List.set_cons_zero, List.set_cons_succ]
      refine wpAnyH_take (i := 4) (v := ?_) rfl (by kernel_rfl) (by kernel_rfl) (by kernel_rfl) (fun _ _ _ h => h) (Or.inl ⟨by rfl, ?_⟩) hHeld ?_
      rotate_left
      · (intro w hSw; go_simp; (try with_reducible rfl))
      simp only [Act.put, List.getElem_toArray, List.getElem_cons_zero, List.getElem_cons_succ, List.setIfInBounds_toArray, List.set_cons_zero, List.set_cons_succ]
      refine wpAnyH_ready (rs := [5]) (by kernel_rfl) (by simp) ?_
      refine AllReadyH.cons rfl (fun K hK => ?_) AllReadyH.nil
      simp only [List.getElem_toArray, List.getElem_cons_zero, List.getElem_cons_succ]
      go_simp
      refine hK.out _ _ e1 (fun _ => ?_)
      try simp only [Act.put, List.setIfInBounds_toArray, List.set_cons_zero, List.set_cons_succ]
      clear hK K
      replace hHeld := e1
      refine wpAnyH_take (i := 6) (v := ?_) rfl (by kernel_rfl) (by kernel_rfl) (by kernel_rfl) (fun _ _ _ h => h) (Or.inl ⟨by rfl, ?_⟩) hHeld ?_
      rotate_left
      · (intro w hSw; go_simp; (try with_reducible rfl))
      simp only [Act.put, List.getElem_toArray, List.getElem_cons_zero, List.getElem_cons_succ, List.setIfInBounds_toArray, List.set_cons_zero, List.set_cons_succ]
      refine wpAnyH_ready (rs := [7]) (by kernel_rfl) (by simp) ?_
      refine AllReadyH.cons rfl (fun K hK => ?_) AllReadyH.nil
      simp only [List.getElem_toArray, List.getElem_cons_zero, List.getElem_cons_succ]
      go_simp
      refine hK.out _ _ e2 (fun _ => ?_)
      try simp only [Act.put, List.setIfInBounds_toArray, List.set_cons_zero, List.set_cons_succ]
      clear hK K
      replace hHeld := e2
      refine wpAnyH_done (by kernel_rfl) ?_ _
      clear hA e1 e2 x2 y2 x3 y3 l3 l4 hHeld
      go_upto_region 13 with fail
      have hsz3 := ev_size (⟨2, a, b, d, c, f⟩)
      have hone3 := evC_one (⟨2, a, b, d, c, f⟩)
      have hs36 : (evC ev0).size = (evC (⟨2, a, b, d, c, f⟩)).size := rfl
      clear c0 c1 c2 c3 c4 c5 d0 d1 d2 d3 d4 d5 f0
      obtain ⟨es, hes⟩ : ∃ es, es = evC (⟨2, a, b, d, c, f⟩) := ⟨_, rfl⟩
      have HEs := Lib.hid hes
      unfold EvB at hS hZ
      rw [← hes] at hS hsz3 hone3 hs36
      clear hes
      go_wp2_with (first
        | (refine wpList_load_row rfl 31 (.tmp 3) rfl g3 rfl 31 _ (0, 0) _ hS Try.underlying31 rfl hsz3 ?_)
        | (refine wpList_store_row rfl 31 (.tmp 2) (.tmp 37) rfl g2 _ rfl rfl 31 (evC ev0) hZ hsz3 hs36 hone3 ?_))
      refine bodyPost_ret (v := .agg es) ?_ rfl ⟨by rw [HI.out, HEs.out]; rfl, below_setRow hbS _ _ hwg2⟩
      exact results_cellE (ty := 31) (p := 2) (by kernel_rfl) _ _ g2 31 _ (0, 0) _ rfl (setRow_heap _ _ _ _ _ _ hZ) Try.underlying31 rfl hsz3
    · skip
      have HI := Lib.hid (show invE ⟨3, a, b, c, d, f⟩ = ⟨3, a, b, d, c, f⟩ from rfl)
      go_upto_region 12 with fail
      have hA := hE3.set_ 3 (.int .i64 d) (e' := ⟨3, a, b, d, d, f⟩) rfl
      have hS := hA.set_ 4 (.int .i64 c) (e' := ⟨3, a, b, d, c, f⟩) rfl
      have hZ := (hE2.far (show g2 ≠ g3 by omega) 3 (.int .i64 d)).far (show g2 ≠ g3 by omega) 4 (.int .i64 c)
      have hbS := (hb3.setCell (p := ⟨g3, 3, none⟩) (show w.heap.size ≤ g3 from hwg3) (.int .i64 d)).setCell (p := ⟨g3, 4, none⟩) (show w.heap.size ≤ g3 from hwg3) (.int .i64 c)
      replace hbS := hbS.drew
      have e1 := hE1.far (show g1 ≠ g3 by omega) 3 (.int .i64 d)
      have e2 := e1.far (show g1 ≠ g3 by omega) 4 (.int .i64 c)
      have x2 := hE3.cells.2.2.2.1
      have y2 := frozen_of_row w3 g3 3 _ _ hE3
      have x3 := hA.cells.2.2.2.2.1
      have y3 := frozen_of_row _ g3 4 _ _ hA
      have l3 : ∀ W, EvB W g1 ⟨3, a, b, c, d, f⟩ → W.cell? ⟨g1, 3, none⟩ = some (.int .i64 c) := fun W h => h.cells.2.2.2.1
      have l4 : ∀ W, EvB W g1 ⟨3, a, b, c, d, f⟩ → W.cell? ⟨g1, 4, none⟩ = some (.int .i64 d) := fun W h => h.cells.2.2.2.2.1
      refine wp_region_held_drew (S := fun W => EvB W g1 ⟨3, a, b, c, d, f⟩) (by kernel_rfl) (show EvB w3.drew g1 _ from hE1) (fun hHeld => ?_)
      refine wpAnyH_take (i := 0) (v := ?_) rfl (by kernel_rfl) (by kernel_rfl) (by kernel_rfl) (fun _ _ _ h => h) (Or.inl ⟨by rfl, ?_⟩) hHeld ?_
      rotate_left
      · (intro w hSw; go_simp; (try with_reducible rfl))
      simp only [Act.put, List.getElem_toArray, List.getElem_cons_zero, List.getElem_cons_succ, List.setIfInBounds_toArray, List.set_cons_zero, List.set_cons_succ]
      refine wpAnyH_take (i := 1) (v := ?_) rfl (by kernel_rfl) (by kernel_rfl) (by kernel_rfl) (fun _ _ _ h => h) (Or.inl ⟨by rfl, ?_⟩) hHeld ?_
      rotate_left
      · (intro w hSw; go_simp; (try with_reducible rfl))
      simp only [Act.put, List.getElem_toArray, List.getElem_cons_zero, List.getElem_cons_succ, List.setIfInBounds_toArray, List.set_cons_zero, List.set_cons_succ]
      refine wpAnyH_take (i := 2) (v := ?_) rfl (by kernel_rfl) (by kernel_rfl) (by kernel_rfl) (fun _ _ _ h => h) (Or.inl ⟨by rfl, ?_⟩) hHeld ?_
      rotate_left
      · (intro w hSw; go_simp; (try with_reducible rfl))
      simp only [Act.put, List.getElem_toArray, List.getElem_cons_zero, List.getElem_cons_succ, List.setIfInBounds_toArray, List.set_cons_zero, List.set_cons_succ]
      refine wpAnyH_take (i := 3) (v := ?_) rfl (by kernel_rfl) (by kernel_rfl) (by kernel_rfl) (fun _ _ _ h => h) (Or.inl ⟨by rfl, ?_⟩) hHeld ?_
      rotate_left
      · (intro w hSw; go_simp; (try with_reducible rfl))
      simp only [Act.put, List.getElem_toArray, List.getElem_cons_zero, List.getElem_cons_succ, List.setIfInBounds_toArray, List.set_cons_zero, List.set_cons_succ]
      refine wpAnyH_take (i := 4) (v := ?_) rfl (by kernel_rfl) (by kernel_rfl) (by kernel_rfl) (fun _ _ _ h => h) (Or.inl ⟨by rfl, ?_⟩) hHeld ?_
      rotate_left
      · (intro w hSw; go_simp; (try with_reducible rfl))
      simp only [Act.put, List.getElem_toArray, List.getElem_cons_zero, List.getElem_cons_succ, List.setIfInBounds_toArray, List.set_cons_zero, List.set_cons_succ]
      refine wpAnyH_ready (rs := [5]) (by kernel_rfl) (by simp) ?_
      refine AllReadyH.cons rfl (fun K hK => ?_) AllReadyH.nil
      simp only [List.getElem_toArray, List.getElem_cons_zero, List.getElem_cons_succ]
      go_simp
      refine hK.out _ _ e1 (fun _ => ?_)
      try simp only [Act.put, List.setIfInBounds_toArray, List.set_cons_zero, List.set_cons_succ]
      clear hK K
      replace hHeld := e1
      refine wpAnyH_take (i := 6) (v := ?_) rfl (by kernel_rfl) (by kernel_rfl) (by kernel_rfl) (fun _ _ _ h => h) (Or.inl ⟨by rfl, ?_⟩) hHeld ?_
      rotate_left
      · (intro w hSw; go_simp; (try with_reducible rfl))
      simp only [Act.put, List.getElem_toArray, List.getElem_cons_zero, List.getElem_cons_succ, List.setIfInBounds_toArray, List.set_cons_zero, List.set_cons_succ]
      refine wpAnyH_ready (rs := [7]) (by kernel_rfl) (by simp) ?_
      refine AllReadyH.cons rfl (fun K hK => ?_) AllReadyH.nil
      simp only [List.getElem_toArray, List.getElem_cons_zero, List.getElem_cons_succ]
      go_simp
      refine hK.out _ _ e2 (fun _ => ?_)
      try simp only [Act.put, List.setIfInBounds_toArray, List.set_cons_zero, List.set_cons_succ]
      clear hK K
      replace hHeld := e2
      refine wpAnyH_done (by kernel_rfl) ?_ _
      clear hA e1 e2 x2 y2 x3 y3 l3 l4 hHeld
      go_upto_region 13 with fail
      have hsz3 := ev_size (⟨3, a, b, d, c, f⟩)
      have hone3 := evC_one (⟨3, a, b, d, c, f⟩)
      have hs36 : (evC ev0).size = (evC (⟨3, a, b, d, c, f⟩)).size := rfl
      clear c0 c1 c2 c3 c4 c5 d0 d1 d2 d3 d4 d5 f0
      obtain ⟨es, hes⟩ : ∃ es, es = evC (⟨3, a, b, d, c, f⟩) := ⟨_, rfl⟩
      have HEs := Lib.hid hes
      unfold EvB at hS hZ
      rw [← hes] at hS hsz3 hone3 hs36
      clear hes
      go_wp2_with (first
        | (refine wpList_load_row rfl 31 (.tmp 3) rfl g3 rfl 31 _ (0, 0) _ hS Try.underlying31 rfl hsz3 ?_)
        | (refine wpList_store_row rfl 31 (.tmp 2) (.tmp 37) rfl g2 _ rfl rfl 31 (evC ev0) hZ hsz3 hs36 hone3 ?_))
      refine bodyPost_ret (v := .agg es) ?_ rfl ⟨by rw [HI.out, HEs.out]; rfl, below_setRow hbS _ _ hwg2⟩
      exact results_cellE (ty := 31) (p := 2) (by kernel_rfl) _ _ g2 31 _ (0, 0) _ rfl (setRow_heap _ _ _ _ _ _ hZ) Try.underlying31 rfl hsz3
    · skip
      have HI := Lib.hid (show invE ⟨4, a, b, c, d, f⟩ = ⟨4, a, b, d, c, f⟩ from rfl)
      go_upto_region 12 with fail
      have hA := hE3.set_ 3 (.int .i64 d) (e' := ⟨4, a, b, d, d, f⟩) rfl
      have hS := hA.set_ 4 (.int .i64 c) (e' := ⟨4, a, b, d, c, f⟩) rfl
      have hZ := (hE2.far (show g2 ≠ g3 by omega) 3 (.int .i64 d)).far (show g2 ≠ g3 by omega) 4 (.int .i64 c)
      have hbS := (hb3.setCell (p := ⟨g3, 3, none⟩) (show w.heap.size ≤ g3 from hwg3) (.int .i64 d)).setCell (p := ⟨g3, 4, none⟩) (show w.heap.size ≤ g3 from hwg3) (.int .i64 c)
      replace hbS := hbS.drew
      have e1 := hE1.far (show g1 ≠ g3 by omega) 3 (.int .i64 d)
      have e2 := e1.far (show g1 ≠ g3 by omega) 4 (.int .i64 c)
      have x2 := hE3.cells.2.2.2.1
      have y2 := frozen_of_row w3 g3 3 _ _ hE3
      have x3 := hA.cells.2.2.2.2.1
      have y3 := frozen_of_row _ g3 4 _ _ hA
      have l3 : ∀ W, EvB W g1 ⟨4, a, b, c, d, f⟩ → W.cell? ⟨g1, 3, none⟩ = some (.int .i64 c) := fun W h => h.cells.2.2.2.1
      have l4 : ∀ W, EvB W g1 ⟨4, a, b, c, d, f⟩ → W.cell? ⟨g1, 4, none⟩ = some (.int .i64 d) := fun W h => h.cells.2.2.2.2.1
      refine wp_region_held_drew (S := fun W => EvB W g1 ⟨4, a, b, c, d, f⟩) (by kernel_rfl) (show EvB w3.drew g1 _ from hE1) (fun hHeld => ?_)
      refine wpAnyH_take (i := 0) (v := ?_) rfl (by kernel_rfl) (by kernel_rfl) (by kernel_rfl) (fun _ _ _ h => h) (Or.inl ⟨by rfl, ?_⟩) hHeld ?_
      rotate_left
      · (intro w hSw; go_simp; (try with_reducible rfl))
      simp only [Act.put, List.getElem_toArray, List.getElem_cons_zero, List.getElem_cons_succ, List.setIfInBounds_toArray, List.set_cons_zero, List.set_cons_succ]
      refine wpAnyH_take (i := 1) (v := ?_) rfl (by kernel_rfl) (by kernel_rfl) (by kernel_rfl) (fun _ _ _ h => h) (Or.inl ⟨by rfl, ?_⟩) hHeld ?_
      rotate_left
      · (intro w hSw; go_simp; (try with_reducible rfl))
      simp only [Act.put, List.getElem_toArray, List.getElem_cons_zero, List.getElem_cons_succ, List.setIfInBounds_toArray, List.set_cons_zero, List.set_cons_succ]
      refine wpAnyH_take (i := 2) (v := ?_) rfl (by kernel_rfl) (by kernel_rfl) (by kernel_rfl) (fun _ _ _ h => h) (Or.inl ⟨by rfl, ?_⟩) hHeld ?_
      rotate_left
      · (intro w hSw; go_simp; (try with_reducible rfl))
      simp only [Act.put, List.getElem_toArray, List.getElem_cons_zero, List.getElem_cons_succ, List.setIfInBounds_toArray, List.set_cons_zero, List.set_cons_succ]
      refine wpAnyH_take (i := 3) (v := ?_) rfl (by kernel_rfl) (by kernel_rfl) (by kernel_rfl) (fun _ _ _ h => h) (Or.inl ⟨by rfl, ?_⟩) hHeld ?_
      rotate_left
      · (intro w hSw; go_simp; (try with_reducible rfl))
      simp only [Act.put, List.getElem_toArray, List.getElem_cons_zero, List.getElem_cons_succ, List.setIfInBounds_toArray, List.set_cons_zero, List.set_cons_succ]
      refine wpAnyH_take (i := 4) (v := ?_) rfl (by kernel_rfl) (by kernel_rfl) (by kernel_rfl) (fun _ _ _ h => h) (Or.inl ⟨by rfl, ?_⟩) hHeld ?_
      rotate_left
      · (intro w hSw; go_simp; (try with_reducible rfl))
      simp only [Act.put, List.getElem_toArray, List.getElem_cons_zero, List.getElem_cons_succ, List.setIfInBounds_toArray, List.set_cons_zero, List.set_cons_succ]
      refine wpAnyH_ready (rs := [5]) (by kernel_rfl) (by simp) ?_
      refine AllReadyH.cons rfl (fun K hK => ?_) AllReadyH.nil
      simp only [List.getElem_toArray, List.getElem_cons_zero, List.getElem_cons_succ]
      go_simp
      refine hK.out _ _ e1 (fun _ => ?_)
      try simp only [Act.put, List.setIfInBounds_toArray, List.set_cons_zero, List.set_cons_succ]
      clear hK K
      replace hHeld := e1
      refine wpAnyH_take (i := 6) (v := ?_) rfl (by kernel_rfl) (by kernel_rfl) (by kernel_rfl) (fun _ _ _ h => h) (Or.inl ⟨by rfl, ?_⟩) hHeld ?_
      rotate_left
      · (intro w hSw; go_simp; (try with_reducible rfl))
      simp only [Act.put, List.getElem_toArray, List.getElem_cons_zero, List.getElem_cons_succ, List.setIfInBounds_toArray, List.set_cons_zero, List.set_cons_succ]
      refine wpAnyH_ready (rs := [7]) (by kernel_rfl) (by simp) ?_
      refine AllReadyH.cons rfl (fun K hK => ?_) AllReadyH.nil
      simp only [List.getElem_toArray, List.getElem_cons_zero, List.getElem_cons_succ]
      go_simp
      refine hK.out _ _ e2 (fun _ => ?_)
      try simp only [Act.put, List.setIfInBounds_toArray, List.set_cons_zero, List.set_cons_succ]
      clear hK K
      replace hHeld := e2
      refine wpAnyH_done (by kernel_rfl) ?_ _
      clear hA e1 e2 x2 y2 x3 y3 l3 l4 hHeld
      go_upto_region 13 with fail
      have hsz3 := ev_size (⟨4, a, b, d, c, f⟩)
      have hone3 := evC_one (⟨4, a, b, d, c, f⟩)
      have hs36 : (evC ev0).size = (evC (⟨4, a, b, d, c, f⟩)).size := rfl
      clear c0 c1 c2 c3 c4 c5 d0 d1 d2 d3 d4 d5 f0
      obtain ⟨es, hes⟩ : ∃ es, es = evC (⟨4, a, b, d, c, f⟩) := ⟨_, rfl⟩
      have HEs := Lib.hid hes
      unfold EvB at hS hZ
      rw [← hes] at hS hsz3 hone3 hs36
      clear hes
      go_wp2_with (first
        | (refine wpList_load_row rfl 31 (.tmp 3) rfl g3 rfl 31 _ (0, 0) _ hS Try.underlying31 rfl hsz3 ?_)
        | (refine wpList_store_row rfl 31 (.tmp 2) (.tmp 37) rfl g2 _ rfl rfl 31 (evC ev0) hZ hsz3 hs36 hone3 ?_))
      refine bodyPost_ret (v := .agg es) ?_ rfl ⟨by rw [HI.out, HEs.out]; rfl, below_setRow hbS _ _ hwg2⟩
      exact results_cellE (ty := 31) (p := 2) (by kernel_rfl) _ _ g2 31 _ (0, 0) _ rfl (setRow_heap _ _ _ _ _ _ hZ) Try.underlying31 rfl hsz3
  have n2 : (k == 2) = false := beq_eq_false_iff_ne.2 (by omega)
  have n3 : (k == 3) = false := beq_eq_false_iff_ne.2 (by omega)
  have n4 : (k == 4) = false := beq_eq_false_iff_ne.2 (by omega)
  have HI := Lib.hid (show invE ⟨k, a, b, c, d, f⟩ = ⟨k, a, b, c, d, f⟩ by unfold invE; simp only [hk0, hk5, hk1, hk2, if_false])
  have hS := hE3
  have hZ := hE2
  have hbS := hb3
  go_upto_region 13 with fail
  have hsz3 := ev_size (⟨k, a, b, c, d, f⟩)
  have hone3 := evC_one (⟨k, a, b, c, d, f⟩)
  have hs36 : (evC ev0).size = (evC (⟨k, a, b, c, d, f⟩)).size := rfl
  clear c0 c1 c2 c3 c4 c5 d0 d1 d2 d3 d4 d5 f0
  obtain ⟨es, hes⟩ : ∃ es, es = evC (⟨k, a, b, c, d, f⟩) := ⟨_, rfl⟩
  have HEs := Lib.hid hes
  unfold EvB at hS hZ
  rw [← hes] at hS hsz3 hone3 hs36
  clear hes
  go_wp2_with (first
    | (refine wpList_load_row rfl 31 (.tmp 3) rfl g3 rfl 31 _ (0, 0) _ hS Try.underlying31 rfl hsz3 ?_)
    | (refine wpList_store_row rfl 31 (.tmp 2) (.tmp 37) rfl g2 _ rfl rfl 31 (evC ev0) hZ hsz3 hs36 hone3 ?_))
  refine bodyPost_ret (v := .agg es) ?_ rfl ⟨by rw [HI.out, HEs.out]; rfl, below_setRow hbS _ _ hwg2⟩
  exact results_cellE (ty := 31) (p := 2) (by kernel_rfl) _ _ g2 31 _ (0, 0) _ rfl (setRow_heap _ _ _ _ _ _ hZ) Try.underlying31 rfl hsz3
end Go.Proofs.Ythedopnhhanknaa
namespace Go.Proofs.Ythedopnhhanknaa
open Go.RowKit Ex
set_option maxRecDepth 100000
set_option linter.unusedSimpArgs false in
set_option maxHeartbeats 0 in
theorem evCheckRef_any (e : EvT) (w : World) : Calls Try.prog 15 #[evV e] w fun en w' => en = .returned (.int .i64 (chkE e)) ∧ Below w.heap.size w w' := by
  obtain ⟨k, a, b, c, d, f⟩ := e
  unfold evV
  simp only
  go_enter Try.func15, Try.ntmps15
  go_upto_region 1 with fail
  obtain ⟨w1, hw1⟩ : ∃ w1, w1 = w.alloc (.cells #[.int .i64 k, .int .i64 a, .int .i64 b, .int .i64 c, .int .i64 d, .int .i64 f] 31) := ⟨_, rfl⟩
  have hrow : w1.heap[w.heap.size]? = some (.cells #[.int .i64 k, .int .i64 a, .int .i64 b, .int .i64 c, .int .i64 d, .int .i64 f] 31 (0, 0)) := by rw [hw1]; exact heap_alloc_new _ _
  have hb1 : Below w.heap.size w w1 := by rw [hw1]; exact (Below.refl _ _).alloc (Nat.le_refl _) _
  rw [← hw1]
  have c0 := cell_of_row w1 w.heap.size 0 _ _ _ hrow
  have c1 := cell_of_row w1 w.heap.size 1 _ _ _ hrow
  have c2 := cell_of_row w1 w.heap.size 2 _ _ _ hrow
  have c3 := cell_of_row w1 w.heap.size 3 _ _ _ hrow
  have c4 := cell_of_row w1 w.heap.size 4 _ _ _ hrow
  have c5 := cell_of_row w1 w.heap.size 5 _ _ _ hrow
  simp at c0 c1 c2 c3 c4 c5
  clear hw1 hrow
  by_cases hk : k = 0
  · subst hk
    go_wp2_with fail
    all_goals go_ret
    all_goals refine ⟨?_, hb1⟩
    all_goals show Ending.returned (.int .i64 _) = Ending.returned (.int .i64 (chkE _))
    all_goals congr 2
    all_goals symm
    all_goals rw [ck0]
    all_goals (repeat' split) <;> omega
  by_cases hk5 : k = 5
  · subst hk5
    go_wp2_with fail
    all_goals go_ret
    all_goals refine ⟨?_, hb1⟩
    all_goals show Ending.returned (.int .i64 _) = Ending.returned (.int .i64 (chkE _))
    all_goals congr 2
    all_goals symm
    all_goals rw [ck5]
    all_goals (repeat' split) <;> omega
  by_cases hk1 : k = 1
  · subst hk1
    go_wp2_with fail
    all_goals go_ret
    all_goals refine ⟨?_, hb1⟩
    all_goals show Ending.returned (.int .i64 _) = Ending.returned (.int .i64 (chkE _))
    all_goals congr 2
    all_goals symm
    all_goals rw [ck1]
    all_goals (repeat' split) <;> omega
  by_cases hk2 : k = 2
  · subst hk2
    by_cases h3 : b = 3
    · subst h3
      go_wp2_with fail
      all_goals go_ret
      all_goals refine ⟨?_, hb1⟩
      all_goals show Ending.returned (.int .i64 _) = Ending.returned (.int .i64 (chkE _))
      all_goals congr 2
      all_goals symm
      all_goals rw [ck2]
      all_goals (repeat' split) <;> omega
    · have hd3 : (b != 3) = true := bne_iff_ne.2 h3
      go_wp2_with fail
      all_goals go_ret
      all_goals refine ⟨?_, hb1⟩
      all_goals show Ending.returned (.int .i64 _) = Ending.returned (.int .i64 (chkE _))
      all_goals congr 2
      all_goals symm
      all_goals rw [ck2]
      all_goals (repeat' split) <;> omega
  by_cases hk3 : k = 3
  · subst hk3
    go_wp2_with fail
    all_goals go_ret
    all_goals refine ⟨?_, hb1⟩
    all_goals show Ending.returned (.int .i64 _) = Ending.returned (.int .i64 (chkE _))
    all_goals congr 2
    all_goals symm
    all_goals rw [ck3]
    all_goals (repeat' split) <;> omega
  by_cases hk4 : k = 4
  · subst hk4
    by_cases ha : a = 0
    · subst ha
      go_wp2_with fail
      all_goals go_ret
      all_goals refine ⟨?_, hb1⟩
      all_goals show Ending.returned (.int .i64 _) = Ending.returned (.int .i64 (chkE _))
      all_goals congr 2
      all_goals symm
      all_goals rw [ck4]
      all_goals (repeat' split) <;> omega
    · have hda : (a != 0) = true := bne_iff_ne.2 ha
      go_wp2_with fail
      all_goals go_ret
      all_goals refine ⟨?_, hb1⟩
      all_goals show Ending.returned (.int .i64 _) = Ending.returned (.int .i64 (chkE _))
      all_goals congr 2
      all_goals symm
      all_goals rw [ck4]
      all_goals (repeat' split) <;> omega
  by_cases hn : k < 0
  · have hd : decide (k < 0) = true := decide_eq_true hn
    go_wp2_with fail
    all_goals go_ret
    all_goals refine ⟨?_, hb1⟩
    all_goals show Ending.returned (.int .i64 _) = Ending.returned (.int .i64 (chkE _))
    all_goals congr 2
    all_goals symm
    all_goals rw [ckN k a b c d f (by omega)]
    all_goals (repeat' split) <;> omega
  · have hd : decide (k < 0) = false := decide_eq_false hn
    have hd5 : decide (5 < k) = true := decide_eq_true (by omega)
    go_wp2_with fail
    all_goals go_ret
    all_goals refine ⟨?_, hb1⟩
    all_goals show Ending.returned (.int .i64 _) = Ending.returned (.int .i64 (chkE _))
    all_goals congr 2
    all_goals symm
    all_goals rw [ckN k a b c d f (by omega)]
    all_goals (repeat' split) <;> omega
end Go.Proofs.Ythedopnhhanknaa
namespace Go.Proofs.Ythedopnhhanknaa
open Go.RowKit Ex
set_option maxRecDepth 100000
/-- A state's box, loaded whole, behind a guard or not. -/
theorem load_wantS {ops : Array Oper} {rest : List Oper} {op : Oper} {a : Act} {w : World} {Q : Exit → Act → World → Prop} (hw : Region.wanted op (yielded ops a.tmps) = true) (x : Operand) (ho : op.op = .load 29 x)
    (g : Nat) (hx : a.eval x = .pointer (some ⟨g, 0, none⟩)) (cs : Array Value) (h : StAt w g cs) (hs : cs.size = 37)
    (hK : wpList Try.prog ops Q rest (a.put op.dst (.agg cs)) w) : wpList Try.prog ops Q (op :: rest) a w := by
  refine BigFrame.wpList_want hw fun _ hK' => wp_load_row 29 x ho g hx 29 cs (0, 0) _ h Try.underlying29 rfl (by rw [hs]; exact size37) (hK' _ _ hK)
theorem yields_st {ops : Array Oper} {S : World → Prop} {op : Oper} {a : Act} (hw : Region.wanted op (yielded ops a.tmps) = true) (x : Operand) (ho : op.op = .load 29 x)
    (g : Nat) (hx : a.eval x = .pointer (some ⟨g, 0, none⟩)) (cs : Array Value) (hs : cs.size = 37) (hS : ∀ w, S w → StAt w g cs) : YieldsIf Try.prog ops S op (.agg cs) a := by
  have h := yieldsIf_load_mid (P := Try.prog) (S := S) hw 29 x ho g 0 hx cs.toList _ (fun w hSw j v hv => by
    rw [Array.getElem?_toList] at hv
    rw [(hS w hSw).cell, Nat.zero_add]
    exact hv) Try.underlying29 rfl (by rw [Array.length_toList, hs]; exact size37)
  rw [Array.toArray_toList] at h
  exact h
/-- What is not long. -/
theorem long_not {s : StT} {most : Nat} (h : longS s most = false) : s.objs.length ≤ most ∧ ∀ z < 11, (s.lists z).length ≤ most + 10 := by
  simp only [longS, Bool.or_eq_false_iff, decide_eq_false_iff_not, List.any_eq_false, List.mem_range, decide_eq_true_eq] at h
  exact ⟨by have := h.1; omega, fun z hz => by have := h.2 z hz; omega⟩
theorem box_new (w : World) (cs : Array Value) : ∃ W, W = (w.alloc (.cells st0 29)).setRow w.heap.size cs ∧ StAt W w.heap.size cs ∧ Below w.heap.size w W :=
  ⟨_, rfl, setRow_heap _ _ _ _ _ _ (heap_alloc_new _ _), below_setRow ((Below.refl _ _).alloc (Nat.le_refl _) _) _ _ (Nat.le_refl _)⟩
end Go.Proofs.Ythedopnhhanknaa
namespace Go.Proofs.Ythedopnhhanknaa
open Go.RowKit Ex
attribute [local go_sem] arr_get
set_option maxRecDepth 100000
theorem yields_obj {ops : Array Oper} {S : World → Prop} {op : Oper} {a : Act} (hw : Region.wanted op (yielded ops a.tmps) = true) (x : Operand) (ho : op.op = .load 61 x)
    (b o : Nat) (hx : a.eval x = .pointer (some ⟨b, o, none⟩)) (f : Nat → Int) (hS : ∀ w, S w → w.rangeAt b o (arr .i64 18 f).toList) : YieldsIf Try.prog ops S op (.agg (arr .i64 18 f)) a := by
  have h := yieldsIf_load_mid (P := Try.prog) (S := S) hw 61 x ho b o hx (arr .i64 18 f).toList _ hS Try.underlying61 rfl (by rw [Array.length_toList, arr_size]; exact st_size18)
  rw [Array.toArray_toList] at h
  exact h
theorem load_twoW {ops : Array Oper} {rest : List Oper} {op : Oper} {a : Act} {w : World} {Q : Exit → Act → World → Prop} (hw : Region.wanted op (yielded ops a.tmps) = true) (x : Operand) (ho : op.op = .load 26 x)
    (b o : Nat) (hx : a.eval x = .pointer (some ⟨b, o, none⟩)) (f : Nat → Int) (h : w.rangeAt b o (arr .i64 18 f).toList)
    (hK : wpList Try.prog ops Q rest (a.put op.dst (.agg (arr .i64 18 f))) w) : wpList Try.prog ops Q (op :: rest) a w := by
  refine BigFrame.wpList_want hw fun _ hK' => wp_load_mid 26 x ho b o hx (arr .i64 18 f).toList _ h Try.underlying26 rfl (by rw [Array.length_toList, arr_size]; exact size18p) (hK' _ _ ?_)
  rw [Array.toArray_toList]
  exact hK
theorem load_sevenW {ops : Array Oper} {rest : List Oper} {op : Oper} {a : Act} {w : World} {Q : Exit → Act → World → Prop} (hw : Region.wanted op (yielded ops a.tmps) = true) (x : Operand) (ho : op.op = .load 27 x)
    (b o : Nat) (hx : a.eval x = .pointer (some ⟨b, o, none⟩)) (f : Nat → Int) (h : w.rangeAt b o (arr .i64 7 f).toList)
    (hK : wpList Try.prog ops Q rest (a.put op.dst (.agg (arr .i64 7 f))) w) : wpList Try.prog ops Q (op :: rest) a w := by
  refine BigFrame.wpList_want hw fun _ hK' => wp_load_mid 27 x ho b o hx (arr .i64 7 f).toList _ h Try.underlying27 rfl (by rw [Array.length_toList, arr_size]; exact st_size7) (hK' _ _ ?_)
  rw [Array.toArray_toList]
  exact hK
/-- Two boxes with states. -/
structure TwoS (w : World) (ga gb : Nat) (ca cb : Array Value) (W : World) : Prop where
  b : Below w.heap.size w W
  sa : StAt W ga ca
  sb : StAt W gb cb
theorem TwoS.keep {w : World} {ga gb : Nat} {ca cb : Array Value} {W W' : World} (h : TwoS w ga gb ca cb W) (hb : Below W.heap.size W W') : TwoS w ga gb ca cb W' := ⟨keepB hb h.b, h.sa.keep hb, h.sb.keep hb⟩
theorem TwoS.drewN {w : World} {ga gb : Nat} {ca cb : Array Value} {W : World} (h : TwoS w ga gb ca cb W) (m : Nat) : TwoS w ga gb ca cb (W.drewN m) := ⟨below_drewN h.b m, h.sa, h.sb⟩
end Go.Proofs.Ythedopnhhanknaa
namespace Go.Proofs.Ythedopnhhanknaa
open Go.RowKit Ex
set_option maxRecDepth 100000
/-- append of one object to objects of the call's own. -/
theorem wpList_appO1 {ops : Array Oper} {rest : List Oper} {o : Oper} {a : Act} {w : World} {Q : Exit → Act → World → Prop} (hgd : o.guard = none) (s x : Operand)
    (ho : o.op = .call { callee := .builtin .append, args := #[s, x], argTypes := #[22, 22] })
    (base : Nat) (A : Option Addr) (n c : Nat) (l : List (Nat → Int)) (hs : a.eval s = .slice A n c) (h : w.ownsRow base 61 18 (.slice A n c) n (flatO l))
    (g c2 : Nat) (f : Nat → Int) (hx : a.eval x = .slice (some ⟨g, 0, none⟩) 1 c2) (hr : ObAt w g f) (hn : n ≤ 1000000) (hbase : base ≤ w.heap.size)
    (hK : ∀ A' c' w', w'.ownsRow base 61 18 (.slice A' (n + 1) c') (n + 1) (flatO (l ++ [f])) → w.grownBy w' (Value.slice A n c).ownBlock → wpList Try.prog ops Q rest (a.put o.dst (.slice A' (n + 1) c')) w') :
    wpList Try.prog ops Q (o :: rest) a w := by
  obtain ⟨i0, hi, hz0, hz1, hz2⟩ := info_parts info_obj
  refine wpList_append_own_at w hgd s x 22 ho base 61 i0 _ 18 144 Try.underlying22 hi hz0 hz1 hz2 (show (arr .i64 18 fun _ => 0).size = 18 by rw [arr_size]) (by omega) _ n (flatO l) hs h ⟨g, 0, none⟩ 1 c2 (flatO [f]) hx (by rw [flatO_len]; rfl)
    (fun j u hj => ?_) (flatO_one [f]) (by unfold maxLen; omega) (by omega) hbase ?_
  · rw [Addr.add_mid, Nat.zero_add, cell_of_row w g j _ _ _ hr, ← Array.getElem?_toList]
    simpa [flatO] using hj
  · intro v' w' hown hgr _ _
    rw [← show flatO (l ++ [f]) = flatO l ++ flatO [f] by simp [flatO]] at hown
    have hform : ∃ A' c', v' = .slice A' (n + 1) c' := by
      rcases hown.2 with ⟨rfl, hz⟩ | ⟨g', cap, _, rfl, _⟩
      · omega
      · exact ⟨_, _, rfl⟩
    obtain ⟨A', c', rfl⟩ := hform
    exact hK A' c' w' hown hgr
theorem buildSlice_of (f : Nat → Int) (W : World) : (Instr.buildSlice 22 1 #[(0, .agg (arr .i64 18 f))]).run Try.prog W = .ok (.slice (some ⟨W.heap.size, 0, none⟩) 1 1) (W.alloc (.cells (arr .i64 18 f) 61)) := by kernel_rfl
theorem wpList_buildSliceOf {ops : Array Oper} {rest : List Oper} {o : Oper} {a : Act} {w : World} {Q : Exit → Act → World → Prop} (hg : o.guard = none) (x : Operand) (ho : o.op = .buildSlice 22 1 #[(0, x)]) (f : Nat → Int)
    (hx : a.eval x = .agg (arr .i64 18 f)) (hK : wpList Try.prog ops Q rest (a.put o.dst (.slice (some ⟨w.heap.size, 0, none⟩) 1 1)) (w.alloc (.cells (arr .i64 18 f) 61))) : wpList Try.prog ops Q (o :: rest) a w := by
  refine wpList_plain hg fun K' hK' => ?_
  unfold Oper.wp
  simp [execOp, ho, hx, buildSlice_of, Result.andThen]
  exact hK' _ _ hK
end Go.Proofs.Ythedopnhhanknaa
namespace Go.Proofs.Ythedopnhhanknaa
open Go.RowKit
/-- append of any slice of numbers to one of the call's own, with where it lies then. -/
theorem run_appG {P : Program} (w : World) (k : IntKind) (base : Nat) (t ty e : TypeId) (i : TypeInfo) (z : Value) (bytes : Nat) (ht : P.underlying t = some (.slice e)) (hi : P.info? e = some i) (hz : i.zero = some z)
    (hsize : i.size = 1) (hby : i.bytes = bytes) (hzs : z.cells.size = 1)
    {A : Option Addr} {n c : Nat} {l : List Int} (hown : Own k e w base A n c l) {B : Nat} {A2 : Option Addr} {m c2 : Nat} {l2 : List Int} (h2 : Nums k w B A2 m l2)
    (hsm : n + m ≤ 4294967296) (hb8 : bytes ≤ 8) (hbase : base ≤ w.heap.size) :
    ∃ A' c' w', (Builtin.append_ #[t, t] ty #[.slice A n c, .slice A2 m c2]).run P w = .ok (.slice A' (n + m) c') w' ∧ Own k e w' base A' (n + m) c' (l ++ l2) ∧ w.grownBy w' (Value.slice A n c).ownBlock ∧
      ((Value.slice A' (n + m) c').ownBlock = (Value.slice A n c).ownBlock ∨ (Value.slice A' (n + m) c').ownBlock = some w.heap.size) := by
  have hlen : (l ++ l2).length = n + m := by rw [List.length_append, hown.1, h2.1]
  rcases A2 with _ | ad
  · have hl2 : l2 = [] := by
      cases l2 with
      | nil => rfl
      | cons x r => obtain ⟨a, e, _⟩ := h2.2 0 x (by simp); cases e
    subst hl2
    obtain rfl : m = 0 := by have := h2.1; simpa using this.symm
    exact ⟨A, c, w, run_app_nil w base t ty e i ht hi _ n _ hown.2 c2, by simpa using hown, World.grownBy.refl w _, .inl rfl⟩
  · obtain ⟨v', w', hrun, h3, h4, _, h5⟩ := run_append_own_at (P := P) w base t ty e i z 1 bytes ht hi hz hsize hby hzs (by omega) (.slice A n c) n (l.map (Value.int k)) hown.2 ad m c2 (l2.map (Value.int k))
      (by rw [List.length_map, h2.1]; omega)
      (fun j u hj => by
        rw [List.getElem?_map, Option.map_eq_some_iff] at hj
        obtain ⟨x, hx, rfl⟩ := hj
        obtain ⟨a, ea, _, hc⟩ := h2.2 j x hx
        injection ea with ea
        subst ea
        exact hc) (ints_one k l2) (by unfold maxLen; omega)
      (by have : (n + m) * bytes ≤ 4294967296 * 8 := Nat.mul_le_mul hsm hb8
          omega) hbase
    rw [← List.map_append] at h3
    rcases h3.2 with ⟨rfl, hn⟩ | ⟨g, cap, cur, rfl, rest⟩
    · rw [hn] at h3 ⊢
      refine ⟨none, 0, w', hrun, ⟨by omega, h3⟩, h4, h5⟩
    · exact ⟨_, cap, w', hrun, ⟨hlen, h3⟩, h4, h5⟩
theorem wpList_appG {P : Program} {w : World} {ops : Array Oper} {rest : List Oper} {o : Oper} {a : Act} {Q : Exit → Act → World → Prop} (hgd : o.guard = none) (s x : Operand) (t : TypeId)
    (ho : o.op = .call { callee := .builtin .append, args := #[s, x], argTypes := #[t, t] })
    (k : IntKind) (base : Nat) (e : TypeId) (i : TypeInfo) (z : Value) (bytes : Nat) (ht : P.underlying t = some (.slice e)) (hi : P.info? e = some i) (hz : i.zero = some z)
    (hsize : i.size = 1) (hby : i.bytes = bytes) (hzs : z.cells.size = 1)
    (A : Option Addr) (n c : Nat) (l : List Int) (hs : a.eval s = .slice A n c) (hown : Own k e w base A n c l)
    (B : Nat) (A2 : Option Addr) (m c2 : Nat) (l2 : List Int) (hx : a.eval x = .slice A2 m c2) (h2 : Nums k w B A2 m l2)
    (hsm : n + m ≤ 4294967296) (hb8 : bytes ≤ 8) (hbase : base ≤ w.heap.size)
    (h : ∀ A' c' w', Own k e w' base A' (n + m) c' (l ++ l2) → w.grownBy w' (Value.slice A n c).ownBlock → ((Value.slice A' (n + m) c').ownBlock = (Value.slice A n c).ownBlock ∨ (Value.slice A' (n + m) c').ownBlock = some w.heap.size) →
      wpList P ops Q rest (a.put o.dst (.slice A' (n + m) c')) w') :
    wpList P ops Q (o :: rest) a w := by
  refine wpList_plain hgd fun K hK => ?_
  obtain ⟨A', c', w', hr, h3, h4, h5⟩ := run_appG (P := P) w k base t o.type e i z bytes ht hi hz hsize hby hzs hown (c2 := c2) h2 hsm hb8 hbase
  unfold Oper.wp execOp
  simp only [ho, resolve, invoke, builtin, Sem.run_bind, Sem.run_pure, Result.andThen_ok, List.map_toArray, List.map_cons, List.map_nil, hs, hx, hr]
  exact hK _ _ (h A' c' w' h3 h4 h5)
end Go.Proofs.Ythedopnhhanknaa
namespace Go.Proofs.Ythedopnhhanknaa
open Go.RowKit Ex
set_option maxRecDepth 100000
/-- The blocks of a state's slices. -/
def OwnB (O : SlT) (L : Nat → SlT) (j : Nat) : Prop := O.v.ownBlock = some j ∨ ∃ z, z < 11 ∧ (L z).v.ownBlock = some j
/-- Where the boxes stand: the event's, the result's, the state's. -/
structure ApB (w : World) (ge gr gs : Nat) : Prop where
  e : w.heap.size ≤ ge
  r : ge < gr
  s : gr < gs
structure AP (w : World) (ge gr gs : Nat) (e : EvT) (s : StT) (O : SlT) (L : Nat → SlT) (W : World) : Prop where
  b : Below w.heap.size w W
  e : EvB W ge e
  r : StAt W gr st0
  a : StAt W gs (stC O L s.pl s.gm)
  o : OwnS W w.heap.size s O L
  ne : ∀ j, OwnB O L j → j ≠ ge ∧ j ≠ gr ∧ j ≠ gs
section
variable {w : World} {ge gr gs : Nat} {e : EvT} {s : StT} {O : SlT} {L : Nat → SlT} {W W' : World}
theorem AP.keep (h : AP w ge gr gs e s O L W) (hb : Below W.heap.size W W') : AP w ge gr gs e s O L W' := ⟨keepB hb h.b, h.e.keep hb, h.r.keep hb, h.a.keep hb, h.o.below hb, h.ne⟩
theorem AP.drew (h : AP w ge gr gs e s O L W) : AP w ge gr gs e s O L W.drew := h.keep (Below.refl _ _).drew
theorem OwnS.but (h : OwnS W w.heap.size s O L) {g : Nat} (hne : ∀ j, OwnB O L j → j ≠ g) (i : Nat) (v : Value) : OwnS (W.setCell ⟨g, i, none⟩ v) w.heap.size s O L :=
  ⟨h.on, owns_keep h.o fun j hj => heap_setCell_other W ⟨g, i, none⟩ j v (by simpa using hne j (.inl hj)), fun z hz => ⟨(h.l z hz).1, owns_keep (h.l z hz).2 fun j hj => heap_setCell_other W ⟨g, i, none⟩ j v (by simpa using hne j (.inr ⟨z, hz, hj⟩))⟩, h.d⟩
/-- The players' and the game's numbers. -/
theorem AP.nums (h : AP w ge gr gs e s O L W) (hB : ApB w ge gr gs) (i : Nat) (v : Value) {p q : Nat → Int} (hc : (stC O L s.pl s.gm).setIfInBounds i v = stC O L p q) : AP w ge gr gs e ⟨s.objs, s.lists, p, q⟩ O L (W.setCell ⟨gs, i, none⟩ v) := by
  obtain ⟨b1, b2, b3⟩ := hB
  have ho := h.o.but (g := gs) (fun j hj => (h.ne j hj).2.2) i v
  refine ⟨h.b.setCell (by simp; omega) _, h.e.far (by omega) i v, (heap_setCell_other W ⟨gs, i, none⟩ gr v (by simp; omega)).trans h.r, ?_, ⟨ho.on, ho.o, ho.l, ho.d⟩, h.ne⟩
  unfold StAt
  rw [heap_setCell_same W gs i _ _ _ h.a, hc]
end
theorem flatO_set : ∀ (os : List (Nat → Int)) (i j : Nat) (x : Int), i < os.length → j < 18 → (flatO os).set (i * 18 + j) (.int .i64 x) = flatO (setO os i j x)
  | [], i, j, x, h, _ => by simp at h
  | o :: l, 0, j, x, _, hj => by
    simp only [flatO, setO, List.flatMap_cons, Nat.zero_mul, Nat.zero_add, List.set_cons_zero, List.getD_cons_zero]
    rw [List.set_append_left _ _ (by rw [Array.length_toList, arr_size]; exact hj), ← arr_set, Array.toList_setIfInBounds]
  | o :: l, i + 1, j, x, h, hj => by
    have ih := flatO_set l i j x (by simpa using h) hj
    simp only [flatO, setO, List.flatMap_cons, List.set_cons_succ, List.getD_cons_succ] at ih ⊢
    rw [List.set_append_right _ _ (by rw [Array.length_toList, arr_size]; omega), Array.length_toList, arr_size, show (i + 1) * 18 + j - 18 = i * 18 + j by omega, ih]
theorem owns_set {W : World} {base n c : Nat} {A : Option Addr} {os : List (Nat → Int)} (h : W.ownsRow base 61 18 (.slice A n c) n (flatO os)) {i j : Nat} (hi : i < os.length) (hj : j < 18) :
    ∃ g, A = some ⟨g, 0, none⟩ ∧ W.cell? ⟨g, i * 18 + j, none⟩ = some (.int .i64 (os[i] j)) ∧ W.frozen? ⟨g, i * 18 + j, none⟩ = false ∧ base ≤ g ∧
      ∀ x : Int, (W.setCell ⟨g, i * 18 + j, none⟩ (.int .i64 x)).ownsRow base 61 18 (.slice A n c) n (flatO (setO os i j x)) := by
  have hl := h.1
  rw [flatO_len] at hl
  rcases h.2 with ⟨hv, hn⟩ | ⟨g, cap, cur, hv, hb, hg, hc, hm, hs, ht⟩
  · omega
  · injection hv with h1 _ h3
    subst h1 h3
    have hlt : i * 18 + j < n * 18 := by omega
    have hat := flatO_at i os[i] (List.getElem?_eq_getElem hi) j (.int .i64 (os[i] j)) (by rw [Array.getElem?_toList, arr_get .i64 18 _ hj])
    refine ⟨g, rfl, ?_, frozen_of_row W g (i * 18 + j) cur _ hg, hb, fun x => ?_⟩
    · rw [cell_of_row W g (i * 18 + j) cur _ _ hg, ← Array.getElem?_toList, ← hat, ← ht, List.getElem?_take_of_lt hlt]
    · refine ⟨by rw [flatO_len, setO_len]; exact hl, .inr ⟨g, c, cur.setIfInBounds (i * 18 + j) (.int .i64 x), rfl, hb, heap_setCell_same W g (i * 18 + j) _ _ _ hg, hc, hm, by rw [Array.size_setIfInBounds]; exact hs, ?_⟩⟩
      rw [Array.toList_setIfInBounds, List.take_set, ht, flatO_set os i j x hi hj]
section
variable {w : World} {ge gr gs : Nat} {e : EvT} {s : StT} {L : Nat → SlT} {W : World} {g n c : Nat}
/-- An object's number is written. -/
theorem AP.setO (h : AP w ge gr gs e s ⟨some ⟨g, 0, none⟩, n, c⟩ L W) (q : Nat) {i j : Nat} (hi : i < s.objs.length) (hj : j < 18) (hq : q = i * 18 + j) (x : Int) : AP w ge gr gs e { s with objs := setO s.objs i j x } ⟨some ⟨g, 0, none⟩, n, c⟩ L (W.setCell ⟨g, q, none⟩ (.int .i64 x)) := by
  subst hq
  have ho : W.ownsRow w.heap.size 61 18 (.slice (some ⟨g, 0, none⟩) n c) n (flatO s.objs) := h.o.o
  obtain ⟨g', e', hcell, hfr, hb, hset⟩ := owns_set ho hi hj
  obtain rfl : g = g' := by injection e' with e'; injection e'
  obtain ⟨n1, n2, n3⟩ := h.ne g (.inl rfl)
  refine ⟨h.b.setCell (by simpa using hb) _, h.e.far (Ne.symm n1) _ _, (heap_setCell_other W ⟨g, i * 18 + j, none⟩ gr _ (by simpa using Ne.symm n2)).trans h.r, (heap_setCell_other W ⟨g, i * 18 + j, none⟩ gs _ (by simpa using Ne.symm n3)).trans h.a, ?_, h.ne⟩
  refine ⟨?_, hset x, fun z hz => ⟨(h.o.l z hz).1, owns_keep (h.o.l z hz).2 fun k hk => heap_setCell_other W ⟨g, i * 18 + j, none⟩ k _ ?_⟩, h.o.d⟩
  · show n = (Go.Proofs.Ythedopnhhanknaa.setO s.objs i j x).length
    rw [setO_len]; exact h.o.on
  · intro e
    have e : k = g := by simpa using e
    subst e
    rcases (h.o.l z hz).2.2 with ⟨hv, _⟩ | ⟨g2, cap, cur, hv, _, hg2, _⟩
    · have hk' : (Value.slice (L z).A (L z).n (L z).c).ownBlock = some k := hk
      rw [hv] at hk'; cases hk'
    · have hk' : (Value.slice (L z).A (L z).n (L z).c).ownBlock = some k := hk
      rw [hv] at hk'
      injection hk' with hk'
      have hk' : g2 = k := hk'
      subst hk'
      rcases ho.2 with ⟨hv, _⟩ | ⟨g3, cap3, cur3, hv3, _, hg3, _⟩
      · cases hv
      · injection hv3 with h1
        injection h1 with h1
        injection h1 with h1
        subst h1
        rw [hg2] at hg3
        injection hg3 with hg3
        injection hg3 with _ ht
        exact absurd ht (by decide)
end
theorem own_ty {W : World} {base k n : Nat} {e : TypeId} {v : Value} {xs : List Value} (h : W.ownsRow base e k v n xs) {j : Nat} (hj : v.ownBlock = some j) : base ≤ j ∧ ∃ cur, W.heap[j]? = some (.cells cur e (0, 0)) := by
  rcases h.2 with ⟨hv, _⟩ | ⟨g, cap, cur, hv, hb, hg, _⟩
  · rw [hv] at hj; cases hj
  · rw [hv] at hj
    injection hj with hj
    have hj : g = j := hj
    subst hj
    exact ⟨hb, cur, hg⟩
theorem ty_same {W : World} {j : Nat} {c1 c2 : Array Value} {t1 t2 : TypeId} {f1 f2 : Nat × Nat} (h1 : W.heap[j]? = some (.cells c1 t1 f1)) (h2 : W.heap[j]? = some (.cells c2 t2 f2)) : t1 = t2 := by
  rw [h1] at h2; injection h2 with h2; injection h2
section
variable {w : World} {ge gr gs : Nat} {e : EvT} {s : StT} {O : SlT} {L : Nat → SlT} {W W' : World}
/-- Other objects. -/
theorem AP.objs (h : AP w ge gr gs e s O L W) (hB : ApB w ge gr gs) (hg : W.grownBy W' O.v.ownBlock) {O' : SlT} {os : List (Nat → Int)} (ho : W'.ownsRow w.heap.size 61 18 O'.v O'.n (flatO os)) (hn : O'.n = os.length) :
    AP w ge gr gs e { s with objs := os } O' L (W'.setCell ⟨gs, 0, none⟩ O'.v) := by
  obtain ⟨b1, b2, b3⟩ := hB
  have hne : ∀ g, g = ge ∨ g = gr ∨ g = gs → some g ≠ O.v.ownBlock := fun g hg e => by
    have := h.ne g (.inl e.symm); omega
  have heW : W'.heap[ge]? = W.heap[ge]? := hg.block ge h.e.lt (hne ge (.inl rfl))
  have hrW : W'.heap[gr]? = W.heap[gr]? := hg.block gr h.r.lt (hne gr (.inr (.inl rfl)))
  have haW : W'.heap[gs]? = W.heap[gs]? := hg.block gs h.a.lt (hne gs (.inr (.inr rfl)))
  have hnew : ∀ j, O'.v.ownBlock = some j → j ≠ ge ∧ j ≠ gr ∧ j ≠ gs := fun j hj => by
    obtain ⟨_, cur, hc⟩ := own_ty ho hj
    refine ⟨?_, ?_, ?_⟩
    · rintro rfl; exact absurd (ty_same hc (heW.trans h.e)) (by decide)
    · rintro rfl; exact absurd (ty_same hc (hrW.trans h.r)) (by decide)
    · rintro rfl; exact absurd (ty_same hc (haW.trans h.a)) (by decide)
  refine ⟨(h.b.grown hg h.b.size (fun k hk => (own_ty h.o.o hk).1)).setCell (by simp; omega) _, (heap_setCell_other W' ⟨gs, 0, none⟩ ge _ (by simp; omega)).trans (heW.trans h.e), (heap_setCell_other W' ⟨gs, 0, none⟩ gr _ (by simp; omega)).trans (hrW.trans h.r), ?_, ⟨hn, ?_, fun z hz => ⟨(h.o.l z hz).1, ?_⟩, h.o.d⟩, ?_⟩
  · unfold StAt
    rw [heap_setCell_same W' gs 0 _ _ _ (haW.trans h.a), stC_set_objs]
  · exact owns_keep ho fun j hj => heap_setCell_other W' ⟨gs, 0, none⟩ j _ (by simpa using (hnew j hj).2.2)
  · refine owns_keep (h.o.l z hz).2 fun j hj => ?_
    obtain ⟨_, cur, hc⟩ := own_ty (h.o.l z hz).2 hj
    have h1 : some j ≠ O.v.ownBlock := fun e => by
      obtain ⟨_, cur2, hc2⟩ := own_ty h.o.o e.symm
      exact absurd (ty_same hc hc2) (by decide)
    exact (heap_setCell_other W' ⟨gs, 0, none⟩ j _ (by simpa using (h.ne j (.inr ⟨z, hz, hj⟩)).2.2)).trans (hg.block j (Array.getElem?_eq_some_iff.1 hc).1 h1)
  · rintro j (hj | ⟨z, hz, hj⟩)
    · exact hnew j hj
    · exact h.ne j (.inr ⟨z, hz, hj⟩)
/-- Another list. -/
theorem AP.list (h : AP w ge gr gs e s O L W) (hB : ApB w ge gr gs) {z : Nat} (hz : z < 11) (hg : W.grownBy W' (L z).v.ownBlock) {y : SlT} {l : List Int} (hy : Own .i64 3 W' w.heap.size y.A y.n y.c l) (hat : ∀ j, y.v.ownBlock = some j → W.heap.size ≤ j ∨ (L z).v.ownBlock = some j) :
    AP w ge gr gs e { s with lists := updL s.lists z l } O (updS L z y) (W'.setCell ⟨gs, 1 + z, none⟩ y.v) := by
  obtain ⟨b1, b2, b3⟩ := hB
  have hne : ∀ g, g = ge ∨ g = gr ∨ g = gs → some g ≠ (L z).v.ownBlock := fun g hg e => by
    have := h.ne g (.inr ⟨z, hz, e.symm⟩); omega
  have heW : W'.heap[ge]? = W.heap[ge]? := hg.block ge h.e.lt (hne ge (.inl rfl))
  have hrW : W'.heap[gr]? = W.heap[gr]? := hg.block gr h.r.lt (hne gr (.inr (.inl rfl)))
  have haW : W'.heap[gs]? = W.heap[gs]? := hg.block gs h.a.lt (hne gs (.inr (.inr rfl)))
  have hnew : ∀ j, y.v.ownBlock = some j → j ≠ ge ∧ j ≠ gr ∧ j ≠ gs := fun j hj => by
    obtain ⟨_, cur, hc⟩ := own_ty hy.2 hj
    refine ⟨?_, ?_, ?_⟩
    · rintro rfl; exact absurd (ty_same hc (heW.trans h.e)) (by decide)
    · rintro rfl; exact absurd (ty_same hc (hrW.trans h.r)) (by decide)
    · rintro rfl; exact absurd (ty_same hc (haW.trans h.a)) (by decide)
  have hset : ∀ j, j ≠ gs → (W'.setCell ⟨gs, 1 + z, none⟩ y.v).heap[j]? = W'.heap[j]? := fun j hj => heap_setCell_other W' ⟨gs, 1 + z, none⟩ j _ (by simpa using hj)
  have hdis : ∀ x, x < 11 → x ≠ z → ∀ j, (L x).v.ownBlock = some j → y.v.ownBlock ≠ some j := fun x hx hxz j hj e => by
    rcases hat j e with h1 | h1
    · have := (Array.getElem?_eq_some_iff.1 (own_ty (h.o.l x hx).2 hj).2.choose_spec).1; omega
    · exact h.o.d x hx z hz hxz j hj h1
  refine ⟨(h.b.grown hg h.b.size (fun k hk => (own_ty (h.o.l z hz).2 hk).1)).setCell (by simp; omega) _, (hset ge (by omega)).trans (heW.trans h.e), (hset gr (by omega)).trans (hrW.trans h.r), ?_, ⟨h.o.on, ?_, fun x hx => ?_, fun x hx x' hx' hxx j hj => ?_⟩, ?_⟩
  · unfold StAt
    rw [heap_setCell_same W' gs (1 + z) _ _ _ (haW.trans h.a), stC_set_list _ _ _ _ _ hz]
  · refine owns_keep h.o.o fun j hj => ?_
    obtain ⟨_, cur, hc⟩ := own_ty h.o.o hj
    have h1 : some j ≠ (L z).v.ownBlock := fun e => by
      obtain ⟨_, cur2, hc2⟩ := own_ty (h.o.l z hz).2 e.symm
      exact absurd (ty_same hc hc2) (by decide)
    exact (hset j (h.ne j (.inl hj)).2.2).trans (hg.block j (Array.getElem?_eq_some_iff.1 hc).1 h1)
  · show Own .i64 3 _ w.heap.size (updS L z y x).A (updS L z y x).n (updS L z y x).c (updL s.lists z l x)
    by_cases ex : x = z
    · subst ex
      rw [updL_at]
      simp only [updS, if_pos]
      exact ⟨hy.1, owns_keep hy.2 fun j hj => hset j (hnew j hj).2.2⟩
    · rw [updL_ne _ ex]
      simp only [updS, if_neg ex]
      refine ⟨(h.o.l x hx).1, owns_keep (h.o.l x hx).2 fun j hj => ?_⟩
      obtain ⟨_, cur, hc⟩ := own_ty (h.o.l x hx).2 hj
      exact (hset j (h.ne j (.inr ⟨x, hx, hj⟩)).2.2).trans (hg.block j (Array.getElem?_eq_some_iff.1 hc).1 (fun e => h.o.d x hx z hz ex j hj e.symm))
  · by_cases ex : x = z
    · subst ex
      have hx'z : ¬ x' = x := fun e => hxx e.symm
      simp only [updS, if_pos] at hj
      simp only [updS, if_neg hx'z]
      intro h2
      exact hdis x' hx' hx'z j h2 hj
    · simp only [updS, if_neg ex] at hj
      by_cases ex' : x' = z
      · subst ex'
        simp only [updS, if_pos]
        exact hdis x hx ex j hj
      · simp only [updS, if_neg ex']
        exact h.o.d x hx x' hx' hxx j hj
  · rintro j (hj | ⟨x, hx, hj⟩)
    · exact h.ne j (.inl hj)
    · by_cases ex : x = z
      · subst ex; simp only [updS, if_pos] at hj; exact hnew j hj
      · simp only [updS, if_neg ex] at hj; exact h.ne j (.inr ⟨x, hx, hj⟩)
end
theorem build_oz (W : World) : (Instr.build 61 #[]).run Try.prog W = .ok (.agg (arr .i64 18 fun _ => 0)) W := by kernel_rfl
theorem wpList_buildO0 {ops : Array Oper} {rest : List Oper} {o : Oper} {a : Act} {w : World} {Q : Exit → Act → World → Prop} (hg : o.guard = none) (ho : o.op = .build 61 #[])
    (hK : wpList Try.prog ops Q rest (a.put o.dst (.agg (arr .i64 18 fun _ => 0))) w) : wpList Try.prog ops Q (o :: rest) a w := by
  refine wpList_plain hg fun K' hK' => ?_
  unfold Oper.wp
  simp [execOp, ho, build_oz, Result.andThen]
  exact hK' _ _ hK
theorem made_upd (a b c : Int) : updI (updI (updI (updI (updI (updI (fun _ => 0) 0 a) 1 b) 2 b) 3 10) 13 c) 17 3 = madeO a b c := by
  funext i
  unfold updI madeO
  by_cases h0 : i = 0
  · subst h0; rfl
  by_cases h1 : i = 1
  · subst h1; rfl
  by_cases h2 : i = 2
  · subst h2; rfl
  by_cases h3 : i = 3
  · subst h3; rfl
  by_cases h13 : i = 13
  · subst h13; rfl
  by_cases h17 : i = 17
  · subst h17; rfl
  simp [h0, h1, h2, h3, h13, h17]
theorem owns_take {W : World} {base k n c m : Nat} {e : TypeId} {A : Option Addr} {xs : List Value} (h : W.ownsRow base e k (.slice A n c) n xs) (hm : m ≤ n) : W.ownsRow base e k (.slice A m c) m (xs.take (m * k)) := by
  refine ⟨by rw [List.length_take, h.1]; exact Nat.min_eq_left (Nat.mul_le_mul_right k hm), ?_⟩
  rcases h.2 with ⟨hv, hn⟩ | ⟨g, cap, cur, hv, hb, hg, hc, hx, hs, ht⟩
  · injection hv with h1 _ h3
    subst h1 h3 hn
    obtain rfl : m = 0 := by omega
    exact .inl ⟨rfl, rfl⟩
  · injection hv with h1 _ h3
    subst h1 h3
    exact .inr ⟨g, c, cur, rfl, hb, hg, by omega, hx, hs, by rw [← ht, List.take_take, Nat.min_eq_left (Nat.mul_le_mul_right k hm)]⟩
theorem flatO_take : ∀ (os : List (Nat → Int)) (m : Nat), (flatO os).take (m * 18) = flatO (os.take m)
  | [], m => by simp [flatO]
  | o :: l, 0 => by simp [flatO]
  | o :: l, m + 1 => by
    have ih := flatO_take l m
    simp only [flatO, List.flatMap_cons, List.take_succ_cons] at ih ⊢
    rw [List.take_append, Array.length_toList, arr_size, show (m + 1) * 18 - 18 = m * 18 by omega, ih, List.take_of_length_le (by rw [Array.length_toList, arr_size]; omega)]
theorem Own.take_ {k : IntKind} {e : TypeId} {w : World} {base n c m : Nat} {A : Option Addr} {l : List Int} (h : Own k e w base A n c l) (hm : m ≤ n) : Own k e w base A m c (l.take m) := by
  refine ⟨by rw [List.length_take, h.1]; exact Nat.min_eq_left hm, ?_⟩
  have := owns_take h.2 hm
  rwa [Nat.mul_one, ← List.map_take] at this
theorem cut_objs (g n c m : Nat) (hm : m ≤ c) (hc : 0 < c) (W : World) : (Instr.slice 22 (.slice (some ⟨g, 0, none⟩) n c) none (some (.int .i64 (m : Int))) none).run Try.prog W = .ok (.slice (some ⟨g, 0, none⟩) m c) W := by
  rw [run_slice_h W 22 (some ⟨g, 0, none⟩) n c (by kernel_rfl) .i64 (m : Int) (by omega) (by omega), show (sizeOf (Try.prog.elem 22)).run Try.prog W = .ok 18 W by kernel_rfl]
  simp only [Result.andThen_ok, sliced, Int.toNat_natCast, Nat.sub_zero, Nat.zero_mul]
  rw [if_neg (by omega)]; rfl
theorem cut_ints (g n c m : Nat) (hm : m ≤ c) (hc : 0 < c) (W : World) : (Instr.slice 23 (.slice (some ⟨g, 0, none⟩) n c) none (some (.int .i64 (m : Int))) none).run Try.prog W = .ok (.slice (some ⟨g, 0, none⟩) m c) W := by
  rw [run_slice_h W 23 (some ⟨g, 0, none⟩) n c (by kernel_rfl) .i64 (m : Int) (by omega) (by omega), show (sizeOf (Try.prog.elem 23)).run Try.prog W = .ok 1 W by kernel_rfl]
  simp only [Result.andThen_ok, sliced, Int.toNat_natCast, Nat.sub_zero, Nat.zero_mul]
  rw [if_neg (by omega)]; rfl
theorem own_form {W : World} {base n c k : Nat} {e : TypeId} {A : Option Addr} {xs : List Value} (h : W.ownsRow base e k (.slice A n c) n xs) (hn : 0 < n) : ∃ g, A = some ⟨g, 0, none⟩ ∧ n ≤ c := by
  rcases h.2 with ⟨_, h0⟩ | ⟨g, cap, cur, hv, _, _, hc, _⟩
  · omega
  · injection hv with h1 _ h3
    exact ⟨g, h1, by rw [h3]; exact hc⟩
theorem mem_rmL {l : List Int} {i : Nat} {n : Int} (h : n ∈ rmL l i) : n ∈ l := by
  unfold rmL at h
  rcases List.mem_append.1 h with h | h
  · exact List.mem_of_mem_take h
  · exact List.mem_of_mem_drop h
theorem mem_insL {l : List Int} {i : Nat} {x n : Int} (h : n ∈ insL l i x) : n = x ∨ n ∈ l := by
  unfold insL at h
  rcases List.mem_append.1 h with h | h
  · exact .inr (List.mem_of_mem_take h)
  · rcases List.mem_cons.1 h with h | h
    · exact .inl h
    · exact .inr (List.mem_of_mem_drop h)
/-- What the reference's Apply answers. -/
def ApR (w : World) (r : StT × Int) (en : Ending) (w' : World) : Prop := ∃ cs O L, en = .returned (.tuple #[.agg cs, .int .i64 r.2]) ∧ ReadsS w'.heap.size w' cs r.1 O L ∧ Below w.heap.size w w'
/-- An event's numbers. -/
structure EvI (e : EvT) : Prop where
  k : N64 e.k
  a : N64 e.a
  b : N64 e.b
  c : N64 e.c
  d : N64 e.d
  e : N64 e.e
/-- A state's numbers. -/
structure I64S (s : StT) : Prop where
  o : ∀ o ∈ s.objs, ∀ i < 18, N64 (o i)
  l : ∀ z < 11, ∀ n ∈ s.lists z, N64 n
  p : ∀ i < 18, N64 (s.pl i)
  g : ∀ i < 7, N64 (s.gm i)
theorem ReadsS.i64 {B : Nat} {w : World} {cs : Array Value} {s : StT} {O : SlT} {L : Nat → SlT} (h : ReadsS B w cs s O L) : I64S s := ⟨h.ow, h.lw, h.pw, h.gw⟩
theorem I64S.setO {s : StT} (h : I64S s) {i : Nat} (hi : i < s.objs.length) (j : Nat) {x : Int} (hx : N64 x) : I64S { s with objs := setO s.objs i j x } := by
  refine ⟨fun o ho k hk => ?_, h.l, h.p, h.g⟩
  have ho : o ∈ Go.Proofs.Ythedopnhhanknaa.setO s.objs i j x := ho
  unfold Go.Proofs.Ythedopnhhanknaa.setO at ho
  rcases List.mem_or_eq_of_mem_set ho with h1 | rfl
  · exact h.o o h1 k hk
  · unfold updI
    split
    · exact hx
    · rw [getD_in _ hi]; exact h.o _ (List.getElem_mem hi) k hk
theorem AP.final {w : World} {ge gr gs : Nat} {e : EvT} {s : StT} {O : SlT} {L : Nat → SlT} {W : World} (h : AP w ge gr gs e s O L W) (hI : I64S s) (cs : Array Value) : ReadsS (W.setRow gr cs).heap.size (W.setRow gr cs) (stC O L s.pl s.gm) s O L := by
  have ho : OwnS (W.setRow gr cs) w.heap.size s O L :=
    ⟨h.o.on, owns_keep h.o.o fun j hj => setRow_other W gr j cs (h.ne j (.inl hj)).2.1, fun z hz => ⟨(h.o.l z hz).1, owns_keep (h.o.l z hz).2 fun j hj => setRow_other W gr j cs (h.ne j (.inr ⟨z, hz, hj⟩)).2.1⟩, h.o.d⟩
  exact ho.reads hI.o hI.l hI.p hI.g
theorem st0_size' : (Try.prog.info? 29).map (·.size) = some st0.size := by rw [show st0.size = 37 from stC_size _ _ _ _]; exact size37
theorem st0_one' : st0.all (·.oneCell') = true := stC_one _ _ _ _
end Go.Proofs.Ythedopnhhanknaa
namespace Go.Proofs.Ythedopnhhanknaa
namespace Wx
open Go.RowKit

/-- What stands for a number. -/
def stn (n : Int) : Nat := if 0 ≤ n then (2 * n).toNat else (-2 * n - 1).toNat
/-- The number for which one stands. -/
def unf (x : Nat) : Int := if x % 2 = 0 then ((x / 2 : Nat) : Int) else -((x / 2 : Nat) : Int) - 1
def i64B (n : Int) : Prop := -9223372036854775808 ≤ n ∧ n ≤ 9223372036854775807
theorem stn_lt {n : Int} (h : i64B n) : stn n < 18446744073709551616 := by
  unfold i64B at h; unfold stn; split <;> omega
theorem unf_stn (n : Int) : unf (stn n) = n := by
  unfold unf stn; split <;> split <;> omega
theorem stn_unf (x : Nat) : stn (unf x) = x := by
  unfold unf stn; split <;> split <;> omega
theorem unf_i64 {x : Nat} (h : x < 18446744073709551616) : i64B (unf x) := by
  unfold i64B unf; split <;> omega

/-- A number's bytes, with so many behind the first at most. -/
def en : Nat → Nat → List Int
  | 0, x => [(x : Int)]
  | f + 1, x => if x < 128 then [(x : Int)] else ((x % 128 + 128 : Nat) : Int) :: en f (x / 128)
def bts (n : Int) : List Int := en 9 (stn n)
def lst (l : List Int) : List Int := bts l.length ++ l.flatMap bts

def byB (l : List Int) : Prop := ∀ b ∈ l, 0 ≤ b ∧ b < 256
theorem byB_nil : byB [] := by intro b h; cases h
theorem byB_append {a b : List Int} (ha : byB a) (hb : byB b) : byB (a ++ b) := by
  intro x hx; rcases List.mem_append.1 hx with h | h
  · exact ha x h
  · exact hb x h
theorem byB_cons {x : Int} {b : List Int} (h0 : 0 ≤ x) (h1 : x < 256) (hb : byB b) : byB (x :: b) := by
  intro y hy; rcases List.mem_cons.1 hy with h | h
  · subst h; exact ⟨h0, h1⟩
  · exact hb y h
theorem byB_drop {a : List Int} (k : Nat) (h : byB a) : byB (a.drop k) := fun x hx => h x (List.mem_of_mem_drop hx)
theorem byB_take {a : List Int} (k : Nat) (h : byB a) : byB (a.take k) := fun x hx => h x (List.mem_of_mem_take hx)

theorem en_byB : ∀ (f x : Nat), x < 128 ^ (f + 1) → byB (en f x)
  | 0, x, h => by
    intro b hb; simp [en] at hb; subst hb; omega
  | f + 1, x, h => by
    simp only [en]; split
    · intro b hb; simp at hb; subst hb; omega
    · refine byB_cons (by omega) (by omega) (en_byB f _ ?_)
      rw [Nat.pow_succ] at h; omega
theorem pow10 : (128 : Nat) ^ (9 + 1) = 1180591620717411303424 := by decide
theorem bts_byB {n : Int} (h : i64B n) : byB (bts n) := by
  have := stn_lt h
  refine en_byB 9 _ ?_; rw [pow10]; omega
theorem flat_byB {l : List Int} (h : ∀ n ∈ l, i64B n) : byB (l.flatMap bts) := by
  intro b hb
  obtain ⟨n, hn, hb⟩ := List.mem_flatMap.1 hb
  exact bts_byB (h n hn) b hb
theorem en_len : ∀ (f x : Nat), 1 ≤ (en f x).length ∧ (en f x).length ≤ f + 1
  | 0, x => by simp [en]
  | f + 1, x => by
    have := en_len f (x / 128)
    simp only [en]; split <;> simp <;> omega
theorem bts_len (n : Int) : 1 ≤ (bts n).length ∧ (bts n).length ≤ 10 := en_len 9 _
theorem flat_len (l : List Int) : (l.flatMap bts).length ≤ 10 * l.length := by
  induction l with
  | nil => simp
  | cons a l ih => have := bts_len a; simp only [List.flatMap_cons, List.length_append, List.length_cons]; omega
theorem lst_len (l : List Int) : (lst l).length ≤ 10 * l.length + 10 := by
  have := flat_len l; have := bts_len (l.length : Int); unfold lst; simp only [List.length_append]; omega
theorem i64B_len {l : List Int} (h : l.length ≤ 9223372036854775807) : i64B (l.length : Int) := by unfold i64B; omega
theorem lst_byB {l : List Int} (h : ∀ n ∈ l, i64B n) (hl : l.length ≤ 9223372036854775807) : byB (lst l) :=
  byB_append (bts_byB (i64B_len hl)) (flat_byB h)

/-- How many bytes a number has, by its bits. -/
theorem en_bits : ∀ (f x : Nat), x < 128 ^ (f + 1) → x < 18446744073709551616 → (en f x).length = (max (Lib.bitLen x) 1 + 6) / 7
  | 0, x, h, _ => by
    have h' : x < 2 ^ 7 := by simpa using h
    have := Lib.bitLen_le x 7 (by omega) h'
    simp [en]; omega
  | f + 1, x, h, h64 => by
    simp only [en]; split
    · rename_i hx
      have := Lib.bitLen_le x 7 (by omega) (show x < 2 ^ 7 by omega)
      simp; omega
    · rename_i hx
      have ih := en_bits f (x / 128) (by rw [Nat.pow_succ] at h; omega) (by omega)
      have hs := Lib.bitLen_shift 7 x (by omega) h64
      rw [show (2 : Nat) ^ 7 = 128 by decide] at hs
      have hp : 1 ≤ Lib.bitLen (x / 128) := by
        rw [Lib.bitLen_half _ (by omega) (by omega)]; omega
      rw [List.length_cons, ih, hs]; omega
theorem bts_bits {n : Int} (h : i64B n) : (bts n).length = (max (Lib.bitLen (stn n)) 1 + 6) / 7 := by
  have := stn_lt h
  exact en_bits 9 _ (by rw [pow10]; omega) this

/-- With which number bytes begin, how many it has, an error's number: from place i on, x told so far. -/
def dec : Nat → Nat → List Int → Int × Nat × Int
  | _, _, [] => (0, 0, 7)
  | i, x, b :: r =>
    if (b = 0 ∧ 0 < i) ∨ (i = 9 ∧ 1 < b) then (0, 0, 2)
    else if b < 128 then (unf (x + 128 ^ i * b.toNat), i + 1, 0)
    else dec (i + 1) (x + 128 ^ i * (b.toNat - 128)) r
def tk (l : List Int) : Int × Nat × Int := dec 0 0 l

theorem dec_drop {l : List Int} {k y : Nat} (h : k < l.length) : dec k y (l.drop k) = dec k y (l[k] :: l.drop (k + 1)) := by
  rw [List.drop_eq_getElem_cons h]
theorem dec_zero {l : List Int} {k y : Nat} (h : k < l.length) (hb : l[k] = 0) (hk : 0 < k) : dec k y (l.drop k) = (0, 0, 2) := by
  rw [dec_drop h, dec, if_pos (Or.inl ⟨hb, hk⟩)]
theorem dec_ten {l : List Int} {y : Nat} (h : 9 < l.length) (hb : 1 < l[9]) : dec 9 y (l.drop 9) = (0, 0, 2) := by
  rw [dec_drop h, dec, if_pos (Or.inr ⟨rfl, hb⟩)]
theorem dec_last {l : List Int} {k y : Nat} (h : k < l.length) (hb : l[k] < 128) (h0 : ¬ (l[k] = 0 ∧ 0 < k)) (h9 : ¬ (k = 9 ∧ 1 < l[k])) :
    dec k y (l.drop k) = (unf (y + 128 ^ k * l[k].toNat), k + 1, 0) := by
  rw [dec_drop h, dec, if_neg (fun h' => h'.elim h0 h9), if_pos hb]
theorem dec_more {l : List Int} {k y : Nat} (h : k < l.length) (hb : 128 ≤ l[k]) (h9 : k < 9) :
    dec k y (l.drop k) = dec (k + 1) (y + 128 ^ k * (l[k].toNat - 128)) (l.drop (k + 1)) := by
  rw [dec_drop h, dec, if_neg (by omega), if_neg (by omega)]

/-- What a result is: an error, or a number of at most ten bytes. -/
theorem dec_range : ∀ (l : List Int) (i x : Nat), byB l → i ≤ 9 → x < 128 ^ i → ∀ n k e, dec i x l = (n, k, e) →
    (n = 0 ∧ k = 0 ∧ (e = 2 ∨ e = 7)) ∨ (e = 0 ∧ i < k ∧ k ≤ i + l.length ∧ k ≤ 10 ∧ ∃ y, y < 18446744073709551616 ∧ n = unf y ∧ en (9 - i) (y / 128 ^ i) = l.take (k - i) ∧ y % 128 ^ i = x)
  | [], i, x, _, _, _ => by
    intro n k e h; simp [dec] at h; omega
  | b :: r, i, x, hb, hi, hx => by
    intro n k e h
    have hb0 := hb b (by simp)
    have hr : byB r := fun y hy => hb y (by simp [hy])
    rw [dec] at h
    by_cases h1 : (b = 0 ∧ 0 < i) ∨ (i = 9 ∧ 1 < b)
    · rw [if_pos h1] at h; simp at h; omega
    · rw [if_neg h1] at h
      obtain ⟨c, rfl⟩ := Int.eq_ofNat_of_zero_le hb0.1
      rw [Int.toNat_natCast] at h
      have hp : 0 < 128 ^ i := Nat.pow_pos (by decide)
      have hdiv : ∀ d, (x + 128 ^ i * d) / 128 ^ i = d := fun d => by
        rw [Nat.add_mul_div_left _ _ hp, Nat.div_eq_of_lt hx, Nat.zero_add]
      have hmod : ∀ d, (x + 128 ^ i * d) % 128 ^ i = x := fun d => by
        rw [Nat.add_mul_mod_self_left, Nat.mod_eq_of_lt hx]
      by_cases h2 : (c : Int) < 128
      · rw [if_pos h2] at h
        simp only [Prod.mk.injEq] at h
        obtain ⟨rfl, rfl, rfl⟩ := h
        right
        refine ⟨rfl, by omega, by simp, by omega, _, ?_, rfl, ?_, hmod c⟩
        · by_cases h9 : i = 9
          · subst h9
            have hc : c ≤ 1 := by omega
            have : 128 ^ 9 * c ≤ 128 ^ 9 * 1 := Nat.mul_le_mul_left _ hc
            rw [show (128 : Nat) ^ 9 = 9223372036854775808 by decide] at this hx ⊢
            omega
          · have h8 : 128 ^ i ≤ 128 ^ 8 := Nat.pow_le_pow_right (by decide) (by omega)
            have : 128 ^ i * c ≤ 128 ^ i * 127 := Nat.mul_le_mul_left _ (by omega)
            rw [show (128 : Nat) ^ 8 = 72057594037927936 by decide] at h8
            omega
        · rw [hdiv, show i + 1 - i = 1 by omega]
          cases hj : 9 - i with
          | zero => simp [en]
          | succ j => rw [en, if_pos (by omega)]; simp
      · rw [if_neg h2] at h
        have hi9 : i < 9 := by
          rcases Nat.lt_or_ge i 9 with h' | h'
          · exact h'
          · exact absurd (Or.inr ⟨by omega, by omega⟩) h1
        have hx' : x + 128 ^ i * (c - 128) < 128 ^ (i + 1) := by
          have : 128 ^ i * (c - 128) ≤ 128 ^ i * 127 := Nat.mul_le_mul_left _ (by omega)
          rw [Nat.pow_succ]; omega
        rcases dec_range r (i + 1) _ hr (by omega) hx' n k e h with h' | ⟨rfl, h3, h4, h5, y, hy, rfl, hen, hym⟩
        · exact Or.inl h'
        · right
          refine ⟨rfl, by omega, by simp; omega, h5, y, hy, rfl, ?_, ?_⟩
          · obtain ⟨j, hj⟩ : ∃ j, k - i = j + 1 := ⟨k - i - 1, by omega⟩
            have hyi : y / 128 ^ i % 128 = c - 128 := by
              have e1 : y % 128 ^ (i + 1) / 128 ^ i = c - 128 := by rw [hym, hdiv]
              rw [Nat.pow_succ, Nat.mod_mul_right_div_self] at e1
              exact e1
            have hyd : y / 128 ^ i / 128 = y / 128 ^ (i + 1) := by rw [Nat.div_div_eq_div_mul, Nat.pow_succ]
            have hnz : ¬ y / 128 ^ i < 128 := by
              intro hlt
              have h0 : y / 128 ^ (i + 1) = 0 := by rw [← hyd]; exact Nat.div_eq_of_lt hlt
              rw [h0] at hen
              -- the last byte would be 0
              have : en (9 - (i + 1)) 0 = [0] := by cases 9 - (i + 1) <;> simp [en]
              rw [this] at hen
              cases r with
              | nil => simp at h4; omega
              | cons d r' =>
                obtain ⟨j', hj'⟩ : ∃ j', k - (i + 1) = j' + 1 := ⟨k - (i + 1) - 1, by omega⟩
                rw [hj', List.take_succ_cons] at hen
                simp at hen
                obtain ⟨hd, _⟩ := hen
                rw [dec, if_pos (Or.inl ⟨hd.symm, by omega⟩)] at h
                simp at h
            rw [hj, List.take_succ_cons, show 9 - i = (9 - (i + 1)) + 1 by omega, en, if_neg hnz, hyi, hyd, hen, show k - (i + 1) = j by omega]
            have ec : ((c - 128 + 128 : Nat) : Int) = (c : Int) := by omega
            rw [ec]
          · have e1 : y % 128 ^ (i + 1) % 128 ^ i = x := by rw [hym, hmod]
            rw [Nat.pow_succ, Nat.mod_mul_right_mod] at e1
            exact e1

/-- A number's bytes tell it, whatever stands behind. -/
theorem dec_en : ∀ (f i x y : Nat) (r : List Int), f + i = 9 → x < 128 ^ i → x + 128 ^ i * y < 18446744073709551616 → (0 < i → 0 < y) →
    dec i x (en f y ++ r) = (unf (x + 128 ^ i * y), i + (en f y).length, 0)
  | 0, i, x, y, r, hi, hx, h, hy => by
    have hi : i = 9 := by omega
    subst hi
    rw [show (128 : Nat) ^ 9 = 9223372036854775808 by decide] at h
    simp only [en, List.singleton_append]
    rw [dec, if_neg (by omega), if_pos (by omega)]
    simp
  | f + 1, i, x, y, r, hi, hx, h, hy => by
    simp only [en]
    split
    · rename_i hlt
      simp only [List.singleton_append]
      rw [dec, if_neg (by omega), if_pos (by omega)]
      simp
    · rename_i hge
      simp only [List.cons_append]
      have hsum : x + 128 ^ i * (y % 128) + 128 ^ (i + 1) * (y / 128) = x + 128 ^ i * y := by
        have := Nat.div_add_mod y 128
        rw [Nat.pow_succ, Nat.add_assoc, Nat.mul_assoc, ← Nat.mul_add]
        congr 2; omega
      rw [dec, if_neg (by omega), if_neg (by omega)]
      rw [show (((y % 128 + 128 : Nat) : Int).toNat - 128) = y % 128 by omega]
      have hp : 0 < 128 ^ i := Nat.pow_pos (by decide)
      rw [dec_en f (i + 1) _ (y / 128) r (by omega) ?_ (by rw [hsum]; exact h) (by omega), hsum, List.length_cons]
      · congr 2; omega
      · have : 128 ^ i * (y % 128) ≤ 128 ^ i * 127 := Nat.mul_le_mul_left _ (by omega)
        rw [Nat.pow_succ]; omega
theorem tk_bts {n : Int} (h : i64B n) (r : List Int) : tk (bts n ++ r) = (n, (bts n).length, 0) := by
  have := dec_en 9 0 0 (stn n) r rfl (by decide) (by simpa using stn_lt h) (by omega)
  unfold tk bts
  rw [this]; simp [unf_stn]
theorem tk_range {l : List Int} (hl : byB l) {n : Int} {k : Nat} {e : Int} (h : tk l = (n, k, e)) :
    (n = 0 ∧ k = 0 ∧ (e = 2 ∨ e = 7)) ∨ (e = 0 ∧ 0 < k ∧ k ≤ l.length ∧ k ≤ 10 ∧ i64B n ∧ bts n = l.take k) := by
  rcases dec_range l 0 0 hl (by omega) (by decide) n k e h with h1 | ⟨h1, h2, h3, h4, y, hy, rfl, hen, _⟩
  · exact Or.inl h1
  · right
    refine ⟨h1, h2, by omega, h4, unf_i64 hy, ?_⟩
    unfold bts
    rw [stn_unf]
    simpa using hen

/-- The next so many numbers: the list so far, the place. -/
def more : Nat → List Int → Nat → List Int → List Int × Nat × Int
  | 0, _, at', acc => (acc, at', 0)
  | m + 1, l, at', acc => if (tk (l.drop at')).2.2 ≠ 0 then ([], 0, (tk (l.drop at')).2.2) else more m l (at' + (tk (l.drop at')).2.1) (acc ++ [(tk (l.drop at')).1])
/-- With which list bytes begin, how many it has, an error's number. -/
def tl (l : List Int) (most : Int) : List Int × Nat × Int :=
  if (tk l).2.2 ≠ 0 then ([], 0, (tk l).2.2) else if (tk l).1 < 0 then ([], 0, 1) else if most < (tk l).1 then ([], 0, 19) else more (tk l).1.toNat l (tk l).2.1 []

theorem more_bad {m : Nat} {l : List Int} {a : Nat} {acc : List Int} {n : Int} {k : Nat} {e : Int} (h : tk (l.drop a) = (n, k, e)) (he : e ≠ 0) : more (m + 1) l a acc = ([], 0, e) := by
  rw [more, h]; simp [he]
theorem more_ok {m : Nat} {l : List Int} {a : Nat} {acc : List Int} {n : Int} {k : Nat} (h : tk (l.drop a) = (n, k, 0)) : more (m + 1) l a acc = more m l (a + k) (acc ++ [n]) := by
  rw [more, h]; simp
theorem more_range : ∀ (m : Nat) (l : List Int) (a : Nat) (acc : List Int), byB l → a ≤ l.length → (∀ n ∈ acc, i64B n) → ∀ r k e, more m l a acc = (r, k, e) →
    (r = [] ∧ k = 0 ∧ (e = 2 ∨ e = 7)) ∨ (e = 0 ∧ a ≤ k ∧ k ≤ l.length ∧ ∃ s, r = acc ++ s ∧ s.length = m ∧ (∀ n ∈ s, i64B n) ∧ l.drop a = s.flatMap bts ++ l.drop k)
  | 0, l, a, acc, _, ha, _ => by
    intro r k e h; simp [more] at h
    obtain ⟨rfl, rfl, rfl⟩ := h
    exact Or.inr ⟨rfl, Nat.le_refl _, ha, [], by simp⟩
  | m + 1, l, a, acc, hl, ha, hacc => by
    intro r k e h
    obtain ⟨n, j, e1, ht⟩ : ∃ n j e1, tk (l.drop a) = (n, j, e1) := ⟨_, _, _, rfl⟩
    rcases tk_range (byB_drop a hl) ht with ⟨_, _, h1⟩ | ⟨rfl, h1, h2, h3, h4, h5⟩
    · rw [more_bad ht (by omega)] at h; simp at h
      obtain ⟨rfl, rfl, rfl⟩ := h
      exact Or.inl ⟨rfl, rfl, h1⟩
    · rw [more_ok ht] at h
      rw [List.length_drop] at h2
      rcases more_range m l (a + j) (acc ++ [n]) hl (by omega) (by intro x hx; rcases List.mem_append.1 hx with h' | h'; · exact hacc x h'
                                                                   · simp at h'; subst h'; exact h4) r k e h with h' | ⟨rfl, h6, h7, s, rfl, h8, h9, h10⟩
      · exact Or.inl h'
      · right
        refine ⟨rfl, by omega, h7, n :: s, by simp, by simp [h8], ?_, ?_⟩
        · intro x hx; rcases List.mem_cons.1 hx with h' | h'
          · subst h'; exact h4
          · exact h9 x h'
        · rw [List.flatMap_cons, h5, List.append_assoc, ← h10, ← List.drop_drop, List.take_append_drop]
theorem tl_range {l : List Int} (hl : byB l) (most : Int) {r : List Int} {k : Nat} {e : Int} (h : tl l most = (r, k, e)) :
    (r = [] ∧ k = 0 ∧ (e = 1 ∨ e = 2 ∨ e = 7 ∨ e = 19)) ∨ (e = 0 ∧ k ≤ l.length ∧ (∀ n ∈ r, i64B n) ∧ l = lst r ++ l.drop k) := by
  unfold tl at h
  obtain ⟨n, j, e1, ht⟩ : ∃ n j e1, tk l = (n, j, e1) := ⟨_, _, _, rfl⟩
  rw [ht] at h
  rcases tk_range hl ht with ⟨_, _, h1⟩ | ⟨rfl, h1, h2, h3, h4, h5⟩
  · rw [if_pos (by show e1 ≠ 0; omega)] at h; simp at h
    obtain ⟨rfl, rfl, rfl⟩ := h
    exact Or.inl ⟨rfl, rfl, by omega⟩
  · rw [if_neg (by simp)] at h
    by_cases hn : n < 0
    · rw [if_pos hn] at h; simp at h
      obtain ⟨rfl, rfl, rfl⟩ := h
      exact Or.inl ⟨rfl, rfl, by omega⟩
    · rw [if_neg hn] at h
      by_cases hm : most < n
      · rw [if_pos hm] at h; simp at h
        obtain ⟨rfl, rfl, rfl⟩ := h
        exact Or.inl ⟨rfl, rfl, by omega⟩
      · rw [if_neg hm] at h
        rcases more_range n.toNat l j [] hl h2 (by intro x hx; cases hx) r k e h with ⟨h6, h7, h8⟩ | ⟨rfl, h6, h7, s, rfl, h8, h9, h10⟩
        · exact Or.inl ⟨h6, h7, by omega⟩
        · right
          refine ⟨rfl, h7, by simpa using h9, ?_⟩
          unfold lst
          rw [h8, Int.toNat_of_nonneg (by omega), List.append_assoc, ← h10, h5, List.take_append_drop]

theorem more_flat : ∀ (s : List Int) (l : List Int) (a : Nat) (acc : List Int) (r : List Int), (∀ n ∈ s, i64B n) → l.drop a = s.flatMap bts ++ r →
    more s.length l a acc = (acc ++ s, a + (s.flatMap bts).length, 0)
  | [], l, a, acc, r, _, _ => by simp [more]
  | n :: s, l, a, acc, r, h, hd => by
    rw [List.flatMap_cons, List.append_assoc] at hd
    have ht := tk_bts (h n (by simp)) (s.flatMap bts ++ r)
    rw [← hd] at ht
    rw [List.length_cons, more_ok ht, more_flat s l _ (acc ++ [n]) r (fun x hx => h x (by simp [hx])) ?_]
    · simp [Nat.add_assoc]
    · rw [← List.drop_drop, hd, List.drop_left]
/-- A list's bytes tell it, whatever stands behind. -/
theorem tl_lst {s : List Int} (hs : ∀ n ∈ s, i64B n) (hl : s.length ≤ 9223372036854775807) (r : List Int) (most : Int) (hm : (s.length : Int) ≤ most) :
    tl (lst s ++ r) most = (s, (lst s).length, 0) := by
  unfold tl
  have ht : tk (lst s ++ r) = ((s.length : Int), (bts (s.length : Int)).length, (0 : Int)) := by
    unfold lst; rw [List.append_assoc]; exact tk_bts (i64B_len hl) _
  rw [ht]
  simp only [ne_eq, not_true_eq_false, if_false]
  rw [if_neg (by omega), if_neg (by omega), Int.toNat_natCast, more_flat s _ _ [] r hs]
  · unfold lst; simp
  · unfold lst; rw [List.append_assoc, List.drop_left]
/-- Of the bytes of two lists none begin with the other ones'. -/
theorem lst_apart {a b : List Int} (ha : ∀ n ∈ a, i64B n) (hb : ∀ n ∈ b, i64B n) (hal : a.length ≤ 9223372036854775807) (hbl : b.length ≤ 9223372036854775807) (r : List Int)
    (h : lst a ++ r = lst b) : a = b := by
  have h1 := tl_lst ha hal r (max a.length b.length) (by omega)
  have h2 := tl_lst hb hbl [] (max a.length b.length) (by omega)
  rw [List.append_nil, ← h, h1] at h2
  exact (Prod.mk.inj h2).1
theorem pre_eq {a b : List Int} (ha : ∀ n ∈ a, i64B n) (hb : ∀ n ∈ b, i64B n) (hal : a.length ≤ 9223372036854775807) (hbl : b.length ≤ 9223372036854775807) :
    (lst a).take (min (lst a).length (lst b).length) = (lst b).take (min (lst a).length (lst b).length) ↔ a = b := by
  constructor
  · intro h
    rcases Nat.le_total (lst a).length (lst b).length with hle | hle
    · rw [Nat.min_eq_left hle, List.take_length] at h
      refine lst_apart ha hb hal hbl ((lst b).drop (lst a).length) ?_
      rw [h]; simp [List.length_take, Nat.min_eq_left hle]
    · rw [Nat.min_eq_right hle, List.take_length] at h
      refine (lst_apart hb ha hbl hal ((lst a).drop (lst b).length) ?_).symm
      rw [← h]; simp [List.length_take, Nat.min_eq_left hle]
  · intro h; rw [h]

/-- Bytes as a string. -/
theorem str_inj {a b : List Int} (ha : byB a) (hb : byB b) : strOfNums a = strOfNums b ↔ a = b := by
  constructor
  · intro h
    have h1 : a.map (fun n => UInt8.ofNat n.toNat) = b.map (fun n => UInt8.ofNat n.toNat) := by rw [← strOfNums_data, ← strOfNums_data, h]
    apply List.ext_getElem?
    intro i
    have h2 := congrArg (fun l : List UInt8 => l[i]?) h1
    simp only [List.getElem?_map] at h2
    cases hx : a[i]? with
    | none => cases hy : b[i]? with
      | none => rfl
      | some y => simp [hx, hy] at h2
    | some x => cases hy : b[i]? with
      | none => simp [hx, hy] at h2
      | some y =>
        simp only [hx, hy, Option.map_some, Option.some.injEq] at h2
        have bx := ha x (List.mem_of_getElem? hx)
        have b_y := hb y (List.mem_of_getElem? hy)
        have h3 := congrArg UInt8.toNat h2
        simp only [UInt8.toNat_ofNat'] at h3
        congr 1; omega
  · intro h; rw [h]
theorem str_append (a b : List Int) : strOfNums a ++ strOfNums b = strOfNums (a ++ b) := by
  apply ByteArray.ext
  rw [ByteArray.data_append]
  unfold strOfNums
  simp
end Wx
end Go.Proofs.Ythedopnhhanknaa
namespace Go.Proofs.Ythedopnhhanknaa
open Go.RowKit
/-- An error, by its number. -/
def errV (e : Int) : Value := if e = 0 then .nilIface else .iface 65 (.int .i64 e)
theorem errV_nil : errV 0 = .nilIface := if_pos rfl
theorem errV_err {e : Int} (h : e ≠ 0) : errV e = .iface 65 (.int .i64 e) := if_neg h
end Go.Proofs.Ythedopnhhanknaa
namespace Go.Proofs.Ythedopnhhanknaa
open Go.RowKit Ex Wx
set_option maxRecDepth 100000
/-- An event's six numbers, its bytes; with which event bytes begin. -/
def numsE (e : EvT) : List Int := [e.k, e.a, e.b, e.c, e.d, e.e]
def bytesE (e : EvT) : List Int := (numsE e).flatMap bts
def ofN (x : List Int) : EvT := ⟨x.getD 0 0, x.getD 1 0, x.getD 2 0, x.getD 3 0, x.getD 4 0, x.getD 5 0⟩
def parseE (l : List Int) : EvT × Int :=
  if (more 6 l 0 []).2.2 ≠ 0 then (ev0, (more 6 l 0 []).2.2)
  else if (more 6 l 0 []).2.1 < l.length then (ev0, 3)
  else if chkE (ofN (more 6 l 0 []).1) ≠ 0 then (ev0, chkE (ofN (more 6 l 0 []).1))
  else (ofN (more 6 l 0 []).1, 0)
/-- The state that Do leaves. -/
def doS (s : StT) (e : EvT) : StT := if (applyS s e).2 = 0 then (applyS s e).1 else s
/-- What Apply answers; Do. -/
def EvAP (w : World) (s : StT) (e : EvT) (en : Ending) (w' : World) : Prop :=
  ∃ cs O L, en = .returned (.tuple #[.agg cs, errV (applyS s e).2]) ∧ ReadsS w'.heap.size w' cs (applyS s e).1 O L ∧ OwnS w' w.heap.size (applyS s e).1 O L ∧ Below w.heap.size w w'
/-- Nothing of what stood is turned but one block. -/
structure Stay (g : Nat) (w w' : World) : Prop where
  os : w'.os = w.os
  tape : w'.tape = w.tape
  output : w'.output = w.output
  size : w.heap.size ≤ w'.heap.size
  block : ∀ k, k < w.heap.size → k ≠ g → w'.heap[k]? = w.heap[k]?
theorem Stay.refl (g : Nat) (w : World) : Stay g w w := ⟨rfl, rfl, rfl, Nat.le_refl _, fun _ _ _ => rfl⟩
theorem Stay.trans {g : Nat} {w w' w'' : World} (h : Stay g w w') (h2 : Stay g w' w'') : Stay g w w'' :=
  ⟨h2.os.trans h.os, h2.tape.trans h.tape, h2.output.trans h.output, Nat.le_trans h.size h2.size, fun k hk hn => (h2.block k (Nat.lt_of_lt_of_le hk h.size) hn).trans (h.block k hk hn)⟩
theorem Stay.of {g : Nat} {w w' : World} (h : Below w.heap.size w w') : Stay g w w' := ⟨h.os, h.tape, h.output, h.size, fun k hk _ => h.block k hk⟩
theorem Stay.set_ {g : Nat} {w w' : World} (h : Stay g w w') (i : Nat) (v : Value) : Stay g w (w'.setCell ⟨g, i, none⟩ v) :=
  ⟨h.os, h.tape, h.output, by simpa using h.size, fun k hk hn => (heap_setCell_other w' ⟨g, i, none⟩ k v (by simpa using hn)).trans (h.block k hk hn)⟩
theorem Stay.below {g : Nat} {w w' : World} (h : Stay g w w') {b : Nat} (hb : b ≤ w.heap.size) (hg : b ≤ g) : Below b w w' :=
  ⟨h.os, h.tape, h.output, h.size, fun k hk => h.block k (by omega) (by omega)⟩
/-- A state that reads so, whatever becomes of one block. -/
def ReadsX (g : Nat) (w : World) (cs : Array Value) (s : StT) (O : SlT) (L : Nat → SlT) : Prop := ∀ w', Stay g w w' → ReadsS w'.heap.size w' cs s O L
theorem ReadsX.stay {g : Nat} {w w' : World} {cs : Array Value} {s : StT} {O : SlT} {L : Nat → SlT} (h : ReadsX g w cs s O L) (hs : Stay g w w') : ReadsX g w' cs s O L := fun _ h2 => h _ (hs.trans h2)
theorem ReadsX.now {g : Nat} {w : World} {cs : Array Value} {s : StT} {O : SlT} {L : Nat → SlT} (h : ReadsX g w cs s O L) : ReadsS w.heap.size w cs s O L := h w (Stay.refl g w)
theorem ReadsX.of {g B : Nat} {w : World} {cs : Array Value} {s : StT} {O : SlT} {L : Nat → SlT} (h : ReadsS B w cs s O L) (hg : B ≤ g) (hB : B ≤ w.heap.size) : ReadsX g w cs s O L :=
  fun _ hs => (h.below (hs.below hB hg)).more (Nat.le_trans hB hs.size)
/-- What Do answers of the state in box g. -/
def EvDP (w : World) (g : Nat) (s : StT) (e : EvT) (en : Ending) (w' : World) : Prop :=
  ∃ O L, en = .returned (errV (applyS s e).2) ∧ StAt w' g (stC O L (doS s e).pl (doS s e).gm) ∧ ReadsX g w' (stC O L (doS s e).pl (doS s e).gm) (doS s e) O L ∧ Stay g w w'
structure EvSaid (z : World) : Prop where
  check : ∀ (e : EvT) (w : World), EvI e → Below z.heap.size z w → Calls Try.prog 14 #[evV e] w fun en w' => en = .returned (errV (chkE e)) ∧ Below w.heap.size w w'
  apply : ∀ (s : StT) (O : SlT) (L : Nat → SlT) (cs : Array Value) (e : EvT) (w : World), ReadsS w.heap.size w cs s O L → s.objs.length ≤ 1000 → (∀ z < 11, (s.lists z).length ≤ 1000) → EvI e → Below z.heap.size z w → Calls Try.prog 10 #[.agg cs, evV e] w (EvAP w s e)
  do_ : ∀ (s : StT) (O : SlT) (L : Nat → SlT) (e : EvT) (g : Nat) (w : World), StAt w g (stC O L s.pl s.gm) → ReadsX g w (stC O L s.pl s.gm) s O L → z.heap.size ≤ g → s.objs.length ≤ 1000 → (∀ z < 11, (s.lists z).length ≤ 1000) → EvI e → Below z.heap.size z w →
    Calls Try.prog 16 #[.pointer (some ⟨g, 0, none⟩), evV e] w (EvDP w g s e)
  inv : ∀ (e : EvT) (w : World), EvI e → Below z.heap.size z w → Calls Try.prog 18 #[evV e] w fun en w' => en = .returned (evV (invE e)) ∧ Below w.heap.size w w'
  sets : ∀ (e : EvT) (w : World), EvI e → Below z.heap.size z w → Calls Try.prog 20 #[evV e] w fun en w' => en = .returned (.bool (decide (2 ≤ e.k) && decide (e.k ≤ 4))) ∧ Below w.heap.size w w'
  bytes : ∀ (e : EvT) (w : World), EvI e → Below z.heap.size z w → Calls Try.prog 22 #[evV e] w fun en w' => ∃ A n c, en = .returned (.slice A n c) ∧ Nums .u8 w' w'.heap.size A n (bytesE e) ∧ n ≤ c ∧ Below w.heap.size w w'
  parse : ∀ (A : Option Addr) (n c : Nat) (l : List Int) (w : World), Nums .u8 w w.heap.size A n l → n ≤ c → byB l → n ≤ 1000000 → Below z.heap.size z w → Calls Try.prog 24 #[.slice A n c] w fun en w' => en = .returned (.tuple #[evV (parseE l).1, errV (parseE l).2]) ∧ Below w.heap.size w w'
/-- What Do answers of no state. -/
def EvNone (z : World) : Prop := ∀ (e : EvT) (w : World), EvI e → Below z.heap.size z w → Calls Try.prog 16 #[.pointer none, evV e] w fun en w' => en = .returned (errV (if chkE e = 0 then 4 else chkE e)) ∧ Below w.heap.size w w'
end Go.Proofs.Ythedopnhhanknaa
