/- Layer 2: contracts of what puts: room, one number, a list; and the document's bytes. -/
import Derived.Test.YthedopnhhanknaaWireA
namespace Go.Proofs.Ythedopnhhanknaa
open Go.RowKit Wx

theorem info_u8 : (Try.prog.info? 5).map (fun i => (i.zero, i.size, i.bytes)) = some (some (.int .u8 0), 1, 1) := by kernel_rfl
theorem info_int : (Try.prog.info? 3).map (fun i => (i.zero, i.size, i.bytes)) = some (some (.int .i64 0), 1, 8) := by kernel_rfl

/-- What a call that makes bytes answers. -/
def MadeB (k : IntKind) (t : TypeId) (w : World) (base : Nat) (l : List Int) (e : Ending) (w' : World) : Prop :=
  ∃ A m c, e = .returned (.slice A m c) ∧ Own k t w' base A m c l ∧ Below base w w'

theorem low7 (x : Nat) : bits .or .u8 ((x : Int) % 256) 128 = ((x % 128 + 128 : Nat) : Int) := by
  rw [or_128 _ (by omega) (by omega)]; omega
def AddRel (w : World) (base : Nat) (t : TypeId) (l : List Int) (v u : Value) (wr : World) : Prop :=
  ∃ A m c cur f x, v = .slice A m c ∧ u = .int .u64 ((x : Nat) : Int) ∧ Own .u8 t wr base A m c cur ∧ cur ++ en f x = l ∧ x < 128 ^ (f + 1) ∧ x < 18446744073709551616 ∧ Below base w wr

theorem addRel_next {w wr w1 : World} {base : Nat} {t : TypeId} {l cur : List Int} {A A' : Option Addr} {m c c' f x : Nat} (hl : cur ++ en f x = l) (hx : x < 128 ^ (f + 1)) (h64 : x < 18446744073709551616) (hge : 128 ≤ x)
    (hbel : Below base w wr) (hbase : base ≤ w.heap.size) (o : Obj) (hown : Own .u8 t (wr.alloc o) base A m c cur) (hown1 : Own .u8 t w1 base A' (m + 1) c' (cur ++ [((x % 128 + 128 : Nat) : Int)])) (hg : (wr.alloc o).grownBy w1 (Value.slice A m c).ownBlock) :
    AddRel w base t l (.slice A' (m + 1) c') (.int .u64 ((x / 128 : Nat) : Int)) w1 := by
  cases f with
  | zero => simp at hx; omega
  | succ f =>
    have hs := hbel.size
    have hb' : Below base w (wr.alloc o) := hbel.alloc (by omega) o
    refine ⟨A', m + 1, c', _, f, x / 128, rfl, rfl, hown1, ?_, ?_, by omega, hown.belowGrown hb' (by simp; omega) hg⟩
    · rw [← hl, en, if_neg (by omega)]; simp
    · rw [Nat.pow_succ] at hx; omega
theorem en_last {f x : Nat} (h : x < 128) : en f x = [(x : Int)] := by
  cases f with
  | zero => rfl
  | succ f => rw [en, if_pos h]

set_option maxRecDepth 100000 in
set_option maxHeartbeats 400000 in
theorem add_any (n : Int) (h : i64B n) (base : Nat) (A : Option Addr) (m c : Nat) (bs : List Int) (w : World) (hown : Own .u8 5 w base A m c bs) (hbase : base ≤ w.heap.size) (hm : m ≤ 1000000000) :
    Calls Try.prog 50 #[.slice A m c, .int .i64 n] w (MadeB .u8 5 w base (bs ++ bts n)) := by
  obtain ⟨i0, hi, hz0, hz1, hz2⟩ := info_parts info_u8
  have hlen : bs.length = m := hown.len
  have hlen10 : (bs ++ bts n).length ≤ m + 10 := by have := bts_len n; simp; omega
  clear hlen
  obtain ⟨l, hl⟩ : ∃ l, l = bs ++ bts n := ⟨_, rfl⟩
  rw [← hl] at hlen10 ⊢
  have HL := Lib.hid hl
  have H := Lib.hid h
  clear hl h
  go_enter Try.func50, Try.ntmps50
  go_wp2_with fail
  refine (fold_any n H.out _).mono ?_
  rintro e w' ⟨rfl, rfl⟩
  go_wp2_with fail
  go_loopw [0, 5] (fun v u wr => AddRel w base 5 l v u wr) (fun _ u _ => (intOf u).toNat)
  case atStart => exact ⟨A, m, c, bs, 9, stn n, rfl, rfl, hown, HL.out.symm, by have := stn_lt H.out; rw [pow10]; omega, stn_lt H.out, Below.refl _ _⟩
  case round =>
    obtain ⟨A1, m1, c1, cur, f, x, rfl, rfl, hown1, hcur, hx, h64, hbel⟩ := hrel
    have hs := hbel.size
    have hm1 : m1 ≤ 1000000010 := by
      have e1 := congrArg List.length hcur
      have e2 := hown1.len
      rw [List.length_append] at e1; omega
    have HC := Lib.hid hcur
    have HX := Lib.hid hx
    have H64 := Lib.hid h64
    clear hcur hx h64
    by_cases hge : 128 ≤ x
    · have HV := Lib.hid (low7 x)
      go_wp2_with (at_builtin; refine wpList_app rfl (.tmp 10) (.tmp 14) _ rfl .u8 base 5 i0 _ 1 Try.underlying48 hi hz0 hz1 hz2 rfl A1 m1 c1 cur rfl (hown1.alloc _) _ (some ⟨wr.heap.size, 0, none⟩) 1 1 [bits .or .u8 ((x : Int) % 256) 128] rfl (Nums.one _ _ _ _) (by omega) (by omega) (by simp; omega) ?_; intro A2 c2 w2 hown2 hg2)
      go_roundw
      case rel => exact addRel_next HC.out HX.out H64.out hge hbel hbase _ (hown1.alloc _) (HV.out ▸ hown2) hg2
      case measure => simp [intOf]; omega
    · have HV : Hid ((x : Int) % 256 = (x : Int)) := by show _ = _; omega
      go_wp2_with (at_builtin; refine wpList_app rfl (.tmp 18) (.tmp 21) _ rfl .u8 base 5 i0 _ 1 Try.underlying48 hi hz0 hz1 hz2 rfl A1 m1 c1 cur rfl (hown1.alloc _) _ (some ⟨wr.heap.size, 0, none⟩) 1 1 [(x : Int)] rfl (Nums.one _ _ _ _) (by omega) (by omega) (by simp; omega) ?_; intro A2 c2 w2 hown2 hg2)
      go_ret
      refine ⟨A2, _, c2, rfl, ?_, (hown1.alloc _).belowGrown (hbel.alloc (by omega) _) (by simp; omega) hg2⟩
      rw [← HC.out, en_last (by omega)]; exact hown2
end Go.Proofs.Ythedopnhhanknaa
