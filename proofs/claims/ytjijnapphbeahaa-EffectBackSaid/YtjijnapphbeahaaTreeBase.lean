/- Layer 6: what the walks over effects share. -/
import Derived.Test.YtjijnapphbeahaaTree
import Derived.Test.YtjijnapphbeahaaWireE
import Derived.Test.YtjijnapphbeahaaReg
import Derived.WalkSpells
import Derived.WalkLawsBesides
import Derived.Lib.Hide
import Derived.BigQuiet
import Derived.Deep.QuietTactic
import Derived.Deep.Cut
import Derived.IntWalk
namespace Go.Proofs.Ytjijnapphbeahaa
open Go.RowKit Ex
theorem keepB {a W w' : World} (h2 : Below W.heap.size W w') (h1 : Below a.heap.size a W) : Below a.heap.size a w' := h1.trans (h2.mono h1.size)
theorem below_drewN {B : Nat} {a w : World} (h : Below B a w) (n : Nat) : Below B a (w.drewN n) := ⟨h.os, h.tape, h.output, h.size, h.block⟩
theorem below_setRow {B : Nat} {a w : World} (h : Below B a w) (g : Nat) (cs : Array Value) (hg : B ≤ g) : Below B a (w.setRow g cs) :=
  h.trans ⟨rfl, rfl, rfl, by simp, fun k hk => setRow_other w g k cs (by omega)⟩
theorem i64_in {x : Int} (h0 : -9223372036854775808 ≤ x) (h1 : x ≤ 9223372036854775807) : IntKind.i64.wrap x = x := by
  simp only [IntKind.wrap, IntKind.bits, IntKind.signed]; simp; omega
theorem size5 : (Try.prog.info? 24).map (·.size) = some 5 := by kernel_rfl
theorem cells5 : Try.prog.cellsOf 24 = 5 := by kernel_rfl
/-- Block g is an effect's box. -/
def EvAt (w : World) (g : Nat) (cs : Array Value) : Prop := w.heap[g]? = some (.cells cs 24 (0, 0))
theorem EvAt.new (w : World) (cs : Array Value) : EvAt (w.alloc (.cells cs 24)) w.heap.size cs := heap_alloc_new _ _
theorem EvAt.lt {w : World} {g : Nat} {cs : Array Value} (h : EvAt w g cs) : g < w.heap.size := (Array.getElem?_eq_some_iff.1 h).1
theorem EvAt.keep {w w' : World} {g : Nat} {cs : Array Value} (h : EvAt w g cs) (hb : Below w.heap.size w w') : EvAt w' g cs := (hb.block g h.lt).trans h
theorem EvAt.below {B : Nat} {w w' : World} {g : Nat} {cs : Array Value} (h : EvAt w g cs) (hb : Below B w w') (hg : g < B) : EvAt w' g cs := (hb.block g hg).trans h
theorem EvAt.cell {w : World} {g : Nat} {cs : Array Value} (h : EvAt w g cs) (i : Nat) : w.cell? ⟨g, i, none⟩ = cs[i]? := cell_of_row w g i cs 24 (0, 0) h
theorem Reads.grow {d : Nat} {w w' : World} {cs : Array Value} {t : ET} (h : Reads w.heap.size w d cs t) (hb : Below w.heap.size w w') : Reads w'.heap.size w' d cs t := (h.keep hb).more hb.size
/-- The effect at a place of a list within, loaded whole. -/
theorem load_sub {ops : Array Oper} {rest : List Oper} {op : Oper} {a : Act} {w : World} {Q : Exit → Act → World → Prop} (hgd : op.guard = none) (x : Operand) (ho : op.op = .load 24 x)
    (b o : Nat) (hx : a.eval x = .pointer (some ⟨b, o, none⟩)) (xs : Array Value) (hs : xs.size = 5) (h : w.rangeAt b o xs.toList)
    (hK : wpList Try.prog ops Q rest (a.put op.dst (.agg xs)) w) : wpList Try.prog ops Q (op :: rest) a w := by
  refine wpList_load_mid hgd 24 x ho b o hx xs.toList _ h Try.underlying24 rfl (by rw [Array.length_toList, hs]; exact size5) ?_
  rw [Array.toArray_toList]
  exact hK
theorem wantEv {ops : Array Oper} {rest : List Oper} {o : Oper} {a : Act} {w : World} {Q : Exit → Act → World → Prop} (hw : Region.wanted o (yielded ops a.tmps) = true) (x : Operand) (ho : o.op = .load 24 x)
    (g : Nat) (hx : a.eval x = .pointer (some ⟨g, 0, none⟩)) (cs : Array Value) (h : EvAt w g cs) (hs : (Try.prog.info? 24).map (·.size) = some cs.size)
    (hK : wpList Try.prog ops Q rest (a.put o.dst (.agg cs)) w) : wpList Try.prog ops Q (o :: rest) a w :=
  BigFrame.wpList_want hw fun _ hK' => wp_load_row 24 x ho g hx 24 cs (0, 0) _ h Try.underlying24 rfl hs (hK' _ _ hK)
theorem yieldsEv {ops : Array Oper} {S : World → Prop} {op : Oper} {a : Act} (hw : Region.wanted op (yielded ops a.tmps) = true) (x : Operand) (ho : op.op = .load 24 x)
    (g : Nat) (hx : a.eval x = .pointer (some ⟨g, 0, none⟩)) (cs : Array Value) (hS : ∀ w, S w → EvAt w g cs) (hs : (Try.prog.info? 24).map (·.size) = some cs.size) : YieldsIf Try.prog ops S op (.agg cs) a :=
  .inl ⟨hw, fun w hw' => by
    unfold execOp
    simp only [ho, hx, Instr.loadAt, Instr.sureAddr, Sem.run_bind, Sem.run_pure, Result.andThen_ok, run_loadVar_row w g 24 24 cs (0, 0) _ (hS w hw') Try.underlying24 rfl hs]⟩
theorem yieldsSub {ops : Array Oper} {S : World → Prop} {op : Oper} {a : Act} (hw : Region.wanted op (yielded ops a.tmps) = true) (x : Operand) (ho : op.op = .load 24 x)
    (b o : Nat) (hx : a.eval x = .pointer (some ⟨b, o, none⟩)) (xs : Array Value) (hs : xs.size = 5) (hS : ∀ w, S w → w.rangeAt b o xs.toList) : YieldsIf Try.prog ops S op (.agg xs) a := by
  have h := yieldsIf_load_mid (P := Try.prog) hw 24 x ho b o hx xs.toList _ hS Try.underlying24 rfl (by rw [Array.length_toList, hs]; exact size5)
  rw [Array.toArray_toList] at h
  exact h
theorem ev_one (op n m who : Int) (A : Option Addr) (k c : Nat) : (evC op n m who A k c).all (·.oneCell') = true := by
  simp [evC, Value.oneCell']
theorem Reads.one {B d : Nat} {w : World} {cs : Array Value} {t : ET} (h : Reads B w d cs t) : cs.all (·.oneCell') = true := by
  obtain ⟨A, c, rfl, _⟩ := h.shape
  exact ev_one _ _ _ _ _ _ _
abbrev zeroE : Array Value := #[.int .i64 0, .int .i64 0, .int .i64 0, .int .i64 0, .slice none 0 0]
/-- A new box with an effect in it. -/
theorem ev_box (wr : World) {xs : Array Value} : ∃ w3, w3 = (wr.alloc (.cells zeroE 24)).setRow wr.heap.size xs ∧ EvAt w3 wr.heap.size xs ∧ Below wr.heap.size wr w3 := by
  refine ⟨_, rfl, ?_, below_setRow ((Below.refl _ _).alloc (Nat.le_refl _) _) _ _ (Nat.le_refl _)⟩
  unfold EvAt
  exact setRow_heap _ _ _ _ _ _ (heap_alloc_new _ _)
def SzRel (w1 : World) (l : List ET) (n dp i : Value) (wr : World) : Prop :=
  ∃ k : Nat, i = .int .i64 ((k : Nat) : Int) ∧ n = .int .i64 ((1 + sizeL (l.take k) : Nat) : Int) ∧ dp = .int .i64 ((depthL (l.take k) : Nat) : Int) ∧ k ≤ l.length ∧ Below w1.heap.size w1 wr
set_option linter.unusedSimpArgs false in
set_option maxRecDepth 100000 in
set_option maxHeartbeats 1000000 in
theorem sizeRef_any : ∀ (d : Nat) (t : ET) (cs : Array Value) (w : World), Reads w.heap.size w d cs t → sizeT t ≤ 1000000 →
    Calls Try.prog 9 #[.agg cs] w fun e w' => e = .returned (.tuple #[.int .i64 (sizeT t : Nat), .int .i64 (depthT t : Nat)]) ∧ Below w.heap.size w w' := by
  intro d
  induction d with
  | zero => exact fun t cs w h => absurd h id
  | succ d ih =>
    intro t cs w hr hsz
    obtain ⟨op, n, m, who, l⟩ := t
    obtain ⟨_, _, _, _, A, c, hcs, hl, hc, hx⟩ := hr
    have HX := Lib.hid hx
    have HCs := Lib.hid hcs
    simp only [sizeT] at hsz
    clear hx hcs
    go_enter Try.func9, Try.ntmps9
    go_upto_region 1 with fail
    obtain ⟨w1, hw1⟩ : ∃ w1, w1 = w.alloc (.cells cs 24) := ⟨_, rfl⟩
    have HE := Lib.hid (show EvAt w1 w.heap.size cs by rw [hw1]; exact EvAt.new _ _)
    have hb1 : Below w.heap.size w w1 := by rw [hw1]; exact (Below.refl _ _).alloc (Nat.le_refl _) _
    rw [← hw1]
    clear hw1
    have c4 : w1.cell? ⟨w.heap.size, 4, none⟩ = some (.slice A l.length c) := by rw [HE.out.cell, HCs.out]; rfl
    go_upto_region 3 with fail
    clear c4
    go_loopw [4, 5, 13] (fun n dp i wr => SzRel w1 l n dp i wr) (fun _ _ i _ => l.length - (intOf i).toNat)
    case atStart => exact ⟨0, rfl, by simp [sizeL], by simp [depthL], by omega, Below.refl _ _⟩
    case round =>
      obtain ⟨k, rfl, rfl, rfl, hk, hb⟩ := hrel
      by_cases hlt : k < l.length
      · obtain ⟨t, ht⟩ : ∃ t, l[k]? = some t := ⟨_, List.getElem?_eq_getElem hlt⟩
        obtain ⟨b, o, xs, rfl, hbb, hra, hrx⟩ := HX.out k t ht
        have hd : decide ((k : Int) < (l.length : Int)) = true := by simp; omega
        go_upto_region 4 with fail
        have hxs := hrx.size
        have hx1 := hrx.one
        have hsx : (Try.prog.info? 24).map (·.size) = some xs.size := by rw [hxs]; exact size5
        have hraw := rangeAt_below hb (by have := hb1.size; omega) (rangeAt_below hb1 hbb hra)
        have hnew : (wr.alloc (.cells zeroE 24)).heap[wr.heap.size]? = some (.cells zeroE 24 (0, 0)) := heap_alloc_new _ _
        go_upto_region 5 with (first
          | (refine load_sub rfl (.tmp 15) rfl b (o + k * 5) rfl xs hxs hraw ?_)
          | (refine wpList_store_row rfl 24 (.tmp 7) (.tmp 16) rfl wr.heap.size _ rfl rfl 24 zeroE hnew hsx (by rw [hxs]; rfl) hx1 ?_))
        obtain ⟨wn, hwn, hEn, hbn⟩ := ev_box wr (xs := xs)
        have hrn := hrx.grow (keepB hbn (keepB hb hb1))
        have hbwn := keepB hbn hb
        rw [← hwn]
        clear hwn hnew hraw hx1
        go_wp2_with (refine wpList_load_row rfl 24 (.tmp 7) rfl wr.heap.size rfl 24 _ (0, 0) _ hEn Try.underlying24 rfl hsx ?_)
        have hts := size_mem ht
        refine (ih t xs wn hrn (by omega)).mono ?_
        rintro e w4 ⟨rfl, hb4⟩
        have hbw4 := keepB hb4 hbwn
        have hs1 := sizeL_take l k t ht
        have hs2 := sizeL_take_le l (k + 1)
        have hs3 := depthL_take l k t ht
        have hs4 := depth_size t
        have hs5 := depthL_size (l.take k)
        obtain ⟨u, hu⟩ : ∃ u, u = sizeL (l.take k) := ⟨_, rfl⟩
        obtain ⟨v, hv⟩ : ∃ v, v = depthL (l.take k) := ⟨_, rfl⟩
        obtain ⟨x, hx⟩ : ∃ x, x = sizeT t := ⟨_, rfl⟩
        obtain ⟨y, hy⟩ : ∃ y, y = depthT t := ⟨_, rfl⟩
        rw [← hu] at hs1 hs5 ⊢
        rw [← hv] at hs3 hs5 ⊢
        rw [← hx] at hs1 hs4 hts ⊢
        rw [← hy] at hs3 hs4 ⊢
        have HS1 := Lib.hid hs1
        have HS3 := Lib.hid hs3
        have hk1 : k + 1 ≤ l.length := by omega
        have hr : 1 + u + x ≤ 1000000 := by omega
        have hmax : (if v < y then (y : Int) else (v : Int)) = ((max v y : Nat) : Int) := by split <;> omega
        have hlen := sizeL_len l
        have hkr : k < 1000000 := by omega
        clear hu hv hx hy hs1 hs2 hs3 hs4 hs5 hts hd hb4 hbwn hrn hlen
        go_wp2_with fail
        go_roundw
        case rel => exact ⟨k + 1, by go_num, by rw [HS1.out]; go_num, by rw [HS3.out] <;> (congr 1; omega), hk1, hbw4⟩
        case measure => simp [intOf]; omega
      · obtain rfl : k = l.length := by omega
        have hlen := sizeL_len l
        have hdep := depthL_size l
        rw [List.take_length]
        have HST := Lib.hid (show sizeT (.node op n m who l) = 1 + sizeL l by simp only [sizeT])
        have HDT := Lib.hid (show depthT (.node op n m who l) = 1 + depthL l by simp only [depthT])
        obtain ⟨u, hu⟩ : ∃ u, u = sizeL l := ⟨_, rfl⟩
        obtain ⟨v, hv⟩ : ∃ v, v = depthL l := ⟨_, rfl⟩
        rw [← hu] at hsz hdep HST ⊢
        rw [← hv] at hdep HDT ⊢
        have hd : decide ((l.length : Int) < (l.length : Int)) = false := by simp
        clear hu hv hlen
        go_wp2_with fail
        go_ret2
        refine ⟨?_, keepB hb hb1⟩
        rw [HST.out, HDT.out]
        rw [show ((1 + v : Nat) : Int) = (v : Int) + 1 by omega]
        rfl
end Go.Proofs.Ytjijnapphbeahaa
