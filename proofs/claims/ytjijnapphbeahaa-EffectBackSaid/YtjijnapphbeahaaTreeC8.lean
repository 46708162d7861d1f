/- Layer 6: contracts of effect's takeNumber and take. -/
import Derived.Test.YtjijnapphbeahaaTreeTakeRef
import Derived.Test.YtjijnapphbeahaaWireF
namespace Go.Proofs.Ytjijnapphbeahaa
open Go.RowKit Ex Wx
namespace Wx
/-- A number's bytes are ten at most: no more are asked. -/
theorem dec_window : ∀ (l : List Int) (k y : Nat), k ≤ 9 → dec k y (l.take (10 - k)) = dec k y l
  | [], k, y, _ => by simp
  | b :: r, k, y, hk => by
    rw [show 10 - k = (9 - k) + 1 by omega, List.take_succ_cons]
    simp only [dec]
    by_cases h1 : (b = 0 ∧ 0 < k) ∨ (k = 9 ∧ 1 < b)
    · rw [if_pos h1, if_pos h1]
    · rw [if_neg h1, if_neg h1]
      by_cases h2 : b < 128
      · rw [if_pos h2, if_pos h2]
      · rw [if_neg h2, if_neg h2]
        have hk9 : k < 9 := by omega
        have ih := dec_window r (k + 1) (y + 128 ^ k * (b.toNat - 128)) (by omega)
        rw [show 10 - (k + 1) = 9 - k by omega] at ih
        exact ih
theorem tk_window (l : List Int) : tk (l.take 10) = tk l := dec_window l 0 0 (by omega)
end Wx
theorem cut_both {P : Program} {k : IntKind} {w : World} {B n c : Nat} {A : Option Addr} {l : List Int} (hN : Nums k w B A n l) (hc : n ≤ c) {i j : Nat} (hij : i ≤ j) (hj : j ≤ n) (t : TypeId) (ht : P.underlying t = some (.slice (P.elem t))) (hs : ∀ W, (sizeOf (P.elem t)).run P W = .ok 1 W) :
    ∃ A', (∀ W, (Instr.slice t (.slice A n c) (some (.int .i64 ((i : Nat) : Int))) (some (.int .i64 ((j : Nat) : Int))) none).run P W = .ok (.slice A' (j - i) (c - i)) W) ∧ Nums k w B A' (j - i) ((l.drop i).take (j - i)) :=
  ⟨_, fun W => by
    rw [run_slice_lh W t A n c ht .i64 .i64 (i : Int) (j : Int) (by omega) (by omega) (by omega), hs]
    simp only [Result.andThen_ok, sliced, Int.toNat_natCast], (hN.cut (by omega) hc).first (by omega)⟩
theorem byB_take {l : List Int} (n : Nat) (h : byB l) : byB (l.take n) := fun x hx => h x (List.mem_of_mem_take hx)
/-- What takeNumber answers. -/
def NumR (r : Int × Nat × Int) (p : Nat) (w : World) (e : Ending) (w' : World) : Prop := e = .returned (.tuple #[.int .i64 (if r.2.2 = 0 then r.1 else 0), .int .i64 (((if r.2.2 = 0 then p + r.2.1 else 0) : Nat) : Int), errV r.2.2]) ∧ Below w.heap.size w w'
set_option linter.unusedSimpArgs false in
set_option maxRecDepth 100000 in
set_option maxHeartbeats 1000000 in
theorem takeNumber_any (A : Option Addr) (n c : Nat) (l : List Int) (w : World) (B p : Nat) (hN : Nums .u8 w B A n l) (hc : n ≤ c) (hby : byB l) (hB : B ≤ w.heap.size) (hn : n ≤ 100000000) (hp : p ≤ n) :
    Calls Try.prog 44 #[.slice A n c, .int .i64 (p : Int)] w (NumR (tk (l.drop p)) p w) := by
  obtain ⟨q, hq⟩ : ∃ q, q = min (p + 10) n := ⟨_, rfl⟩
  have hq1 : p ≤ q := by omega
  have hq2 : q ≤ n := by omega
  obtain ⟨A1, hsl, hN1⟩ := cut_both (P := Try.prog) hN hc (i := p) (j := q) hq1 hq2 37 (by kernel_rfl) (fun _ => by kernel_rfl)
  have hwin : tk ((l.drop p).take (q - p)) = tk (l.drop p) := by
    have hl : (l.drop p).length = n - p := by rw [List.length_drop, hN.len]
    by_cases h : p + 10 ≤ n
    · rw [show q - p = 10 by omega]; exact tk_window _
    · rw [List.take_of_length_le (by omega)]
  have hby1 : byB ((l.drop p).take (q - p)) := byB_take _ (byB_drop _ hby)
  obtain ⟨z, k, e0, htk⟩ : ∃ z k e, tk (l.drop p) = (z, k, e) := ⟨_, _, _, rfl⟩
  have hw0 := hwin.trans htk
  have hrg := tk_range hby1 hw0
  have hm : (if (p : Int) + 10 < (n : Int) then (p : Int) + 10 else (n : Int)) = (q : Int) := by split <;> omega
  have hm2 : (if (n : Int) < (p : Int) + 10 then (n : Int) else (p : Int) + 10) = (q : Int) := by split <;> omega
  have hm3 : min ((p : Int) + 10) (n : Int) = (q : Int) := by omega
  unfold NumR
  rw [htk]
  have HW := Lib.hid hw0
  have HN1 := Lib.hid hN1
  have HB1 := Lib.hid hby1
  have HQ := Lib.hid hq
  clear hwin hw0 htk hq hN1 hby1
  go_enter Try.func44, Try.ntmps44
  go_upto_region 2 with fail
  clear hm hm2 hm3 hsl
  go_wp2_with fail
  by_cases he : e0 = 0
  · subst he
    have hk : k ≤ q - p := by
      rcases hrg with ⟨_, _, h⟩ | ⟨_, _, h, _⟩
      · omega
      · have := HN1.out.len; omega
    refine (take_ok A1 (q - p) (c - p) _ w B HN1.out (by omega) HB1.out hB (by omega) z k HW.out).mono ?_
    rintro e w2 ⟨A2, m2, c2, rfl, hown2, hb2⟩
    have hm2 : m2 = q - p - k := by have h := hown2.len; rw [List.length_drop, HN1.out.len] at h; exact h.symm
    subst hm2
    clear hown2
    go_wp2_with fail
    go_ret3
    refine ⟨?_, hb2⟩
    show Ending.returned (.tuple #[.int .i64 z, .int .i64 ((p : Int) + ((q - p : Nat) : Int) - ((q - p - k : Nat) : Int)), .nilIface]) = _
    rw [show (p : Int) + ((q - p : Nat) : Int) - ((q - p - k : Nat) : Int) = ((p + k : Nat) : Int) by omega]
    simp [errV_nil]
  · have hz : z = 0 ∧ k = 0 := by
      rcases hrg with ⟨h1, h2, _⟩ | ⟨h, _⟩
      · exact ⟨h1, h2⟩
      · exact absurd h he
    obtain ⟨rfl, rfl⟩ := hz
    have HE := Lib.hid he
    refine (take_bad A1 (q - p) (c - p) _ w B HN1.out HB1.out (by omega) e0 he HW.out).mono ?_
    rintro e w2 ⟨rfl, rfl⟩
    clear he
    go_wp2_with fail
    go_ret3
    refine ⟨?_, Below.refl _ _⟩
    show Ending.returned (.tuple #[.int .i64 0, .int .i64 0, .iface 51 (.int .i64 e0)]) = _
    simp [errV_err HE.out, HE.out]
end Go.Proofs.Ytjijnapphbeahaa
