/- Layer 11: the reference's Hash and numbers. -/
import Derived.Test.YtihbdbgmijkjmaaDoorWireG
import Derived.Test.YtihbdbgmijkjmaaDoorBase0
import Derived.Deep.Cut
namespace Go.Proofs.YtihbdbgmijkjmaaDoor
open Go.RowKit Wx
set_option maxRecDepth 100000
/-- The mark of bytes. -/
def hash1 (x b : Int) : Int := IntKind.u64.wrap (bits .xor .u64 x b * 1099511628211)
def hashB (l : List Int) : Int := l.foldl hash1 14695981039346656037
theorem hash_next {l : List Int} {k : Nat} (h : k < l.length) : hashB (l.take (k + 1)) = hash1 (hashB (l.take k)) l[k] := by
  rw [hashB, List.take_succ_eq_append_getElem h, List.foldl_append]; rfl
set_option maxHeartbeats 0 in
theorem hashRef_any (A : Option Addr) (n c : Nat) (l : List Int) (w : World) (B : Nat) (hN : Nums .u8 w B A n l) (hb : byB l) (hn : n ≤ 1000000000) :
    Calls Tryd.prog 12 #[.slice A n c] w fun e w' => e = .returned (.int .u64 (hashB l)) ∧ w = w' := by
  obtain rfl := hN.len
  have HN := Lib.hid hN
  have HB := Lib.hid hb
  clear hN hb
  go_enter Tryd.func12, Tryd.ntmps12
  go_wp2_with fail
  go_loopw [3, 4] (fun x i wr => ∃ k : Nat, i = .int .i64 ((k : Nat) : Int) ∧ x = .int .u64 (hashB (l.take k)) ∧ k ≤ l.length ∧ w = wr) (fun _ i _ => l.length - (intOf i).toNat)
  case atStart => exact ⟨0, rfl, rfl, by omega, rfl⟩
  case round =>
    obtain ⟨k, rfl, rfl, hk, rfl⟩ := hrel
    by_cases hlt : k < l.length
    · obtain ⟨a, rfl, _, hc⟩ := HN.out.at_ hlt
      have hx := HB.out _ (List.getElem_mem hlt)
      have HX := Lib.hid (hash_next hlt)
      obtain ⟨b, hbb⟩ : ∃ b, b = l[k] := ⟨_, rfl⟩
      rw [← hbb] at hc hx HX
      obtain ⟨x, hxx⟩ : ∃ x, x = hashB (l.take k) := ⟨_, rfl⟩
      rw [← hxx] at HX
      rw [← hxx]
      clear hbb hxx
      have p0 : (0 : Int) ≤ (k : Int) := by omega
      have p1 : (k : Int) < (l.length : Int) := by omega
      have hw : IntKind.u64.wrap b = b := by rw [IntKind.wrap_u64]; omega
      go_wp2_with fail
      go_roundw
      case rel => exact ⟨k + 1, by go_num, by rw [HX.out]; rfl, by omega, trivial⟩
      case measure => simp [intOf]; omega
    · obtain rfl : k = l.length := by omega
      rw [List.take_length]
      go_wp2_with fail
      go_ret
      exact ⟨rfl, rfl⟩
def NuRel (w : World) (l : List Int) (r : List Int × Nat × Int) (Z : Nat) (v at_ i : Value) (wr : World) : Prop :=
  ∃ A m c acc j a, v = .slice A m c ∧ at_ = .int .i64 ((a : Nat) : Int) ∧ i = .int .i64 ((j : Nat) : Int) ∧ j ≤ Z ∧ a ≤ l.length ∧ acc.length ≤ a ∧ Own .i64 3 wr w.heap.size A m c acc ∧ more (Z - j) l a acc = r ∧ Below w.heap.size w wr
set_option maxHeartbeats 0 in
theorem numbers_any (A : Option Addr) (n c : Nat) (l : List Int) (Z : Nat) (w : World) (B : Nat) (hN : Nums .u8 w B A n l) (hc : n ≤ c) (hb : byB l) (hB : B ≤ w.heap.size) (hn : n ≤ 100000000) (hZ : Z ≤ 1000) (r : List Int × Nat × Int) (hr : more Z l 0 [] = r) :
    Calls Tryd.prog 30 #[.slice A n c, .int .i64 (Z : Int)] w (RLPost w r) := by
  obtain ⟨i0, hi, hz0, hz1, hz2⟩ := info_parts info_int
  obtain rfl := hN.len
  have HN := Lib.hid hN
  have HB := Lib.hid hb
  have HR := Lib.hid hr
  clear hN hb hr
  go_enter Tryd.func30, Tryd.ntmps30
  go_upto_region 3 with fail
  go_loopw [7, 8, 9] (fun v at_ i wr => NuRel w l r Z v at_ i wr) (fun _ _ i _ => Z - (intOf i).toNat)
  case atStart => exact ⟨_, 0, 0, [], 0, 0, rfl, rfl, rfl, by omega, by omega, by simp, own_empty w _ (Nat.le_refl _), HR.out, (Below.refl _ _).alloc (Nat.le_refl _) _⟩
  case round =>
    obtain ⟨A1, m1, c1, acc, j, a, rfl, rfl, rfl, hj, ha, hacc, hown1, hmore, hbel⟩ := hrel
    have hm1 : m1 ≤ 100000000 := by have := hown1.len; omega
    have hs := hbel.size
    have hNr := HN.out.belowL hbel hB
    obtain ⟨A2, hsl, hN2⟩ := cut_from (P := Tryd.prog) hNr hc ha 30 (by kernel_rfl) (fun _ => by kernel_rfl)
    obtain ⟨z1, k1, e1, ht1⟩ : ∃ z1 k1 e1, tk (l.drop a) = (z1, k1, e1) := ⟨_, _, _, rfl⟩
    have HB2 := Lib.hid (byB_drop a HB.out)
    have HN2 := Lib.hid hN2
    have HM := Lib.hid hmore
    have HT1 := Lib.hid ht1
    have HO1 := Lib.hid hown1
    clear hN2 hmore ht1 hNr hown1
    by_cases hlt : j < Z
    · rcases tk_range HB2.out HT1.out with ⟨g1, g2, g3⟩ | ⟨g1, g2, g3, g4, g5, _⟩
      · subst g1 g2
        have h0 : (e1 != 0) = true := by rw [bne_iff_ne]; omega
        have HF2 : Hid (r = ([], 0, e1)) := by
          show _ = _
          rw [← HM.out, show Z - j = (Z - j - 1) + 1 by omega]; exact more_bad HT1.out (by omega)
        clear g3
        go_wp2_with fail
        refine (takeRef_at A2 _ _ _ _ B HN2.out HB2.out (by omega) _ _ _ HT1.out).mono ?_
        rintro e w' ⟨rfl, rfl⟩
        go_wp2_with fail
        go_ret3
        exact rlPost_bad HF2.out hbel
      · subst g1
        rw [List.length_drop] at g3
        have HM2 : Hid (more (Z - (j + 1)) l (a + k1) (acc ++ [z1]) = r) := by
          show _ = _
          rw [← HM.out, show Z - j = (Z - (j + 1)) + 1 by omega]; exact (more_ok HT1.out).symm
        go_wp2_with fail
        refine (takeRef_at A2 _ _ _ _ B HN2.out HB2.out (by omega) _ _ _ HT1.out).mono ?_
        rintro e w' ⟨rfl, rfl⟩
        go_wp2_with (at_builtin; refine wpList_app rfl (.tmp 30) (.tmp 32) _ rfl .i64 w.heap.size 3 i0 _ 8 Tryd.underlying23 hi hz0 hz1 hz2 rfl A1 m1 c1 acc rfl (HO1.out.alloc _) _ (some ⟨wr.heap.size, 0, none⟩) 1 1 [z1] rfl (Nums.one _ _ _ _) (by omega) (by omega) (by simp; omega) ?_; intro A3 c3 w3 hown3 hg3)
        have HO3 := Lib.hid hown3
        have hbel3 := (HO1.out.alloc _).belowGrown (hbel.alloc (by omega) _) (by simp; omega) hg3
        clear hown3 hg3 hsl
        go_roundw
        case rel => exact ⟨A3, _, c3, acc ++ [z1], j + 1, a + k1, rfl, by go_num, by go_num, by omega, by omega, by simp; omega, HO3.out, HM2.out, hbel3⟩
        case measure => simp [intOf]; omega
    · obtain rfl : j = Z := by omega
      have HF2 : Hid (r = (acc, a, 0)) := by
        show _ = _
        rw [← HM.out, Nat.sub_self, more]
      go_wp2_with fail
      go_ret3
      rw [HF2.out]
      exact ⟨A1, m1, c1, rfl, HO1.out, hbel⟩
end Go.Proofs.YtihbdbgmijkjmaaDoor
