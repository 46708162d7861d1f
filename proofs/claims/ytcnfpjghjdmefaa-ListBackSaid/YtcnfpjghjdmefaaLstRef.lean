/- Layer 9: the reference's Index, Once, Insert, Remove, Deal. -/
import Derived.Test.YtcnfpjghjdmefaaLstMath
import Derived.Test.YtcnfpjghjdmefaaIs
import Derived.Test.YtcnfpjghjdmefaaBase0
import Derived.Test.YtcnfpjghjdmefaaReg
import Derived.WalkSpells
import Derived.WalkLawsBesides
import Derived.Lib.Hide
import Derived.BigQuiet
import Derived.Deep.QuietTactic
import Derived.Deep.Cut
import Derived.IntWalk
namespace Go.Proofs.Ytcnfpjghjdmefaa
open Go.RowKit Ex
set_option maxRecDepth 100000
theorem info_int : (Try.prog.info? 3).map (fun i => (i.zero, i.size, i.bytes)) = some (some (.int .i64 0), 1, 8) := by kernel_rfl
/-- A list that the call made: its own, from its first block on. -/
def OwnQ (l : List Int) (w : World) (e : Ending) (w' : World) : Prop := ∃ A n c, e = .returned (.slice A n c) ∧ Own .i64 3 w' w.heap.size A n c l ∧ Below w.heap.size w w'
theorem indexRef_any (A : Option Addr) (n c : Nat) (l : List Int) (x : Int) (w : World) (B : Nat) (hN : Nums .i64 w B A n l) (hn : n ≤ 1000000) :
    Calls Try.prog 16 #[.slice A n c, .int .i64 x] w fun e w' => e = .returned (.int .i64 (idxL l x)) ∧ w' = w := by
  have hln := hN.len
  obtain ⟨q, hq⟩ : ∃ q, q = idxL l x := ⟨_, rfl⟩
  rw [← hq]
  have HQ := Lib.hid hq
  have HN := Lib.hid hN
  clear hN hq
  go_enter Try.func16, Try.ntmps16
  go_upto_region 2 with fail
  go_loopw [5] (fun i wr => ∃ k : Nat, i = .int .i64 ((k : Nat) : Int) ∧ k ≤ n ∧ wr = w ∧ Hid (∀ j : Nat, j < k → l[j]? ≠ some x)) (fun i _ => n - (intOf i).toNat)
  case atStart => exact ⟨0, rfl, by omega, rfl, fun j hj => absurd hj (by omega)⟩
  case round =>
    obtain ⟨k, rfl, hk, rfl, HF⟩ := hrel
    by_cases hlt : k < n
    · obtain ⟨a, rfl, _, hc⟩ := HN.out.at_ (show k < l.length by omega)
      have hd : decide ((k : Int) < (n : Int)) = true := by simp; omega
      have g0 : (0 : Int) ≤ (k : Int) := by omega
      have g1 : (k : Int) < (n : Int) := by omega
      obtain ⟨y, hy⟩ : ∃ y, y = l[k]'(by omega) := ⟨_, rfl⟩
      rw [← hy] at hc
      have HY := Lib.hid (show l[k]? = some y by rw [hy]; exact List.getElem?_eq_getElem (by omega))
      clear hy
      by_cases e : y = x
      · have HE := Lib.hid (show q = (k : Int) from HQ.out.trans (idx_at HF.out (by rw [HY.out, e])))
        have hb : (y == x) = true := by simpa using e
        clear e
        go_wp2_with fail
        go_ret
        exact ⟨by rw [HE.out]; rfl, rfl⟩
      · have hb : (y == x) = false := by simpa using e
        have HF2 := Lib.hid (show ∀ j : Nat, j < k + 1 → l[j]? ≠ some x from fun j hj => by
          by_cases h : j = k
          · subst h; rw [HY.out]; intro h; injection h with h; exact e h
          · exact HF.out j (by omega))
        clear e
        go_wp2_with fail
        go_roundw
        case rel => exact ⟨k + 1, by go_num, by omega, by trivial, HF2⟩
        case measure => simp [intOf]; omega
    · obtain rfl : k = n := by omega
      have hd : decide ((k : Int) < (k : Int)) = false := by simp
      have HE := Lib.hid (show q = -1 from HQ.out.trans (idx_none.2 (fun hm => by
        obtain ⟨j, hj⟩ := List.mem_iff_getElem?.1 hm
        exact HF.out j (by have := (List.getElem?_eq_some_iff.1 hj).1; omega) hj)))
      go_wp2_with fail
      go_ret
      exact ⟨by rw [HE.out]; rfl, rfl⟩
theorem onceRef_any (A : Option Addr) (n c : Nat) (l : List Int) (w : World) (B : Nat) (hN : Nums .i64 w B A n l) (hn : n ≤ 1000000) :
    Calls Try.prog 18 #[.slice A n c] w fun e w' => e = .returned (.bool (decide l.Nodup)) ∧ w' = w := by
  have hln := hN.len
  obtain ⟨q, hq⟩ : ∃ q, q = decide l.Nodup := ⟨_, rfl⟩
  rw [← hq]
  have HQ := Lib.hid hq
  have HN := Lib.hid hN
  clear hN hq
  go_enter Try.func18, Try.ntmps18
  go_upto_region 2 with fail
  go_loopw [6] (fun i wr => ∃ k : Nat, i = .int .i64 ((k : Nat) : Int) ∧ k ≤ n ∧ wr = w ∧ Hid (∀ (j : Nat) (x : Int), j < k → l[j]? = some x → idxL l x = (j : Int))) (fun i _ => n - (intOf i).toNat)
  case atStart => exact ⟨0, rfl, by omega, rfl, fun j x hj => absurd hj (by omega)⟩
  case round =>
    obtain ⟨k, rfl, hk, rfl, HF⟩ := hrel
    by_cases hlt : k < n
    · obtain ⟨a, rfl, _, hc⟩ := HN.out.at_ (show k < l.length by omega)
      have hd : decide ((k : Int) < (n : Int)) = true := by simp; omega
      have g0 : (0 : Int) ≤ (k : Int) := by omega
      have g1 : (k : Int) < (n : Int) := by omega
      obtain ⟨y, hy⟩ : ∃ y, y = l[k]'(by omega) := ⟨_, rfl⟩
      rw [← hy] at hc
      have HY := Lib.hid (show l[k]? = some y by rw [hy]; exact List.getElem?_eq_getElem (by omega))
      clear hy
      have hix := indexRef_any (some a) n c l y wr B HN.out hn
      obtain ⟨p, hp⟩ : ∃ p, p = idxL l y := ⟨_, rfl⟩
      rw [← hp] at hix
      go_wp2_with fail
      refine hix.mono ?_
      rintro e w' ⟨rfl, rfl⟩
      clear hix
      by_cases e : p = (k : Int)
      · have hb : (p != (k : Int)) = false := by simpa using e
        have HF2 := Lib.hid (show ∀ (j : Nat) (x : Int), j < k + 1 → l[j]? = some x → idxL l x = (j : Int) from fun j x hj hx => by
          by_cases h : j = k
          · subst h; rw [HY.out] at hx; injection hx with hx; subst hx; rw [← hp, e]
          · exact HF.out j x (by omega) hx)
        clear e hp
        go_wp2_with fail
        go_roundw
        case rel => exact ⟨k + 1, by go_num, by omega, by trivial, HF2⟩
        case measure => simp [intOf]; omega
      · have hb : (p != (k : Int)) = true := by simpa using e
        have HE := Lib.hid (show q = false from HQ.out.trans (decide_eq_false (fun h => e (hp.trans (once_iff.2 h k y HY.out)))))
        clear e hp
        go_wp2_with fail
        go_ret
        exact ⟨by rw [HE.out]; rfl, rfl⟩
    · obtain rfl : k = n := by omega
      have hd : decide ((k : Int) < (k : Int)) = false := by simp
      have HE := Lib.hid (show q = true from HQ.out.trans (decide_eq_true (once_iff.1 (fun j x hx => HF.out j x (by have := (List.getElem?_eq_some_iff.1 hx).1; omega) hx))))
      go_wp2_with fail
      go_ret
      exact ⟨by rw [HE.out]; rfl, rfl⟩
end Go.Proofs.Ytcnfpjghjdmefaa
