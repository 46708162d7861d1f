/- Layer 4: strings.IndexRune over the five letters, at every rune; read, of the landed code. -/
import Derived.Test.YtammchaihangnaaDoorManaA
import Derived.Test.YtammchaihangnaaDoorManaShelf
import Derived.Deep.DeepCutAuto
import Derived.Deep.LoopGhost
import Derived.Laws.Runes
import Derived.WalkMore
import Derived.Laws.RangeAny
import Derived.Lib.Strings
import Derived.Lib.IndexBytes
namespace Go.Proofs.YtammchaihangnaaDoor
open Go.RowKit Mx
attribute [local go_sem] arr_get
def lettersS : ByteArray := ⟨#[87, 85, 66, 82, 71]⟩
theorem quietL {P : Program} {f : FuncId} {args : Array Value} {w : World} {n : Nat} {v : Value}
    (h : Calls P f args (w.drewN n) fun e w' => e = .returned v ∧ w' = w.drewN n) : Calls P f args (w.drewN n) fun e w'' => e = .returned v ∧ ∃ m, w'' = w.drewN m :=
  h.mono fun _ _ ⟨he, hm⟩ => ⟨he, n, hm⟩
theorem quietLA {P : Program} {f : FuncId} {args : Array Value} {w : World} {a n : Nat} {v : Value}
    (h : Calls P f args (w.drewN (a + n)) fun e w' => e = .returned v ∧ w' = w.drewN (a + n)) : Calls P f args (w.drewN (a + n)) fun e w'' => e = .returned v ∧ ∃ m, w'' = w.drewN (a + m) :=
  h.mono fun _ _ ⟨he, hm⟩ => ⟨he, n, hm⟩
set_option maxRecDepth 100000 in
/-- U+FFFD: no byte of the five is it. -/
theorem indexRune_bad (w : World) : Calls Tryd.prog 30 #[.string lettersS, .int .i32 65533] w fun e w' => e = .returned (.int .i64 (-1)) ∧ Below w.heap.size w w' := by
  go_enter Tryd.func30, Tryd.ntmps30
  go_wp2_with fail
  go_loopg [] 5 (fun g wx => ∃ i : Nat, i + g = 5 ∧ wx = w.iter lettersS i)
  case atStart => exact ⟨0, by omega, rfl⟩
  case round =>
    obtain ⟨i, hig, rfl⟩ := hrel
    cases gk with
    | zero =>
      obtain rfl : i = 5 := by omega
      have hnx := fun ty => run_next_end (P := Tryd.prog) w lettersS 5 ty (by decide)
      go_wp2_with fail
      go_ret
      exact ⟨rfl, (Below.refl _ _).alloc (Nat.le_refl _) _⟩
    | succ g =>
      have hi : i < lettersS.size := by show i < 5; omega
      obtain ⟨x, hx⟩ : ∃ x : UInt8, lettersS[i]'hi = x := ⟨_, rfl⟩
      have hx128 : x.toNat < 128 := by
        have hh : ∀ j (hj : j < 5), (lettersS[j]'hj).toNat < 128 := by decide
        rw [← hx]; exact hh i (by omega)
      have hnx := fun ty => run_next_ascii (P := Tryd.prog) w lettersS i ty hi (by rw [hx]; exact hx128)
      rw [hx] at hnx
      have hne : ((x.toNat : Int) == 65533) = false := by simp; omega
      clear hx
      go_wp2_with fail
      go_roundg g
      case measure => omega
      case rel => exact ⟨i + 1, by omega, rfl⟩
theorem valid_eq (r : Int) : Lib.validRune r = Utf8.valid r := by
  unfold Lib.validRune Utf8.valid
  rw [Bool.eq_iff_iff]
  simp only [decide_eq_true_eq, Bool.or_eq_true, Bool.and_eq_true]
  omega
theorem byte_none {l : List UInt8} {y : Int} (hl : ∀ b ∈ l, b.toNat < 128) (h0 : 128 ≤ y) (h1 : y < 256) : Lib.indexByte l y.toNat.toUInt8 = -1 := by
  induction l with
  | nil => rfl
  | cons b l ih =>
    have hb := hl b (by simp)
    have ih := ih (fun x hx => hl x (by simp [hx]))
    have hne : (b == y.toNat.toUInt8) = false := by
      rw [beq_eq_false_iff_ne]
      intro e
      have := congrArg UInt8.toNat e
      rw [Nat.toUInt8, UInt8.toNat_ofNat'] at this
      omega
    simp only [Lib.indexByte, hne, ih]
    rfl
theorem index_S (i : Nat) (b : UInt8) (h : lettersS.data.toList[i]? = some b) (w : World) : (Instr.index 9 (.string ⟨#[87, 85, 66, 82, 71]⟩) (.int .i64 (i : Int))).run Tryd.prog w = .ok (.int .u8 (b.toNat : Int)) w := index_str lettersS i b h w
set_option maxRecDepth 100000 in
set_option maxHeartbeats 1000000 in
theorem indexRune_far (r : Int) (h0 : 128 ≤ r) (h1 : r ≤ 2147483647) (w : World) : Calls Tryd.prog 30 #[.string lettersS, .int .i32 r] w fun e w' => e = .returned (.int .i64 (-1)) ∧ Below w.heap.size w w' := by
  by_cases hbad : r = 65533
  · subst hbad; exact indexRune_bad w
  · have hV := Tryd.utf8_ValidRune r
    rw [valid_eq] at hV
    cases hv : Utf8.valid r
    · rw [hv] at hV
      unfold lettersS
      go_enter Tryd.func30, Tryd.ntmps30
      go_wp2_with (go_at_call 38; refine (hV _).mono ?_; rintro e w' ⟨rfl, rfl⟩)
      go_ret
      exact ⟨rfl, Below.refl _ _⟩
    · rw [hv] at hV
      obtain ⟨e2, e4, el⟩ := encode_facts r hv h0
      obtain ⟨E, hE⟩ : ∃ E, Utf8.encode r = E := ⟨_, rfl⟩
      rw [hE] at e2 e4 el
      obtain ⟨b, hb⟩ : ∃ b : UInt8, E[E.size - 1]'(by omega) = b := ⟨_, rfl⟩
      obtain ⟨y, hy⟩ : ∃ y : Int, y = (b.toNat : Int) := ⟨_, rfl⟩
      have y0 : 128 ≤ y := by have := el (by omega); rw [hb] at this; omega
      have y1 : y < 256 := by have := b.toNat_lt; omega
      have HEx := Lib.hid (show ∀ W (L : Int), L = (E.size : Int) - 1 → (Instr.index 9 (.string E) (.int .i64 L)).run Tryd.prog W = .ok (.int .u8 y) W from fun W L hL => by
        have h2 := Lib.data_getElem? E (E.size - 1) (by omega)
        rw [hb] at h2
        have h3 := index_str E (E.size - 1) b h2 W
        rw [show L = ((E.size - 1 : Nat) : Int) by omega, h3, hy])
      clear el hb hy hv
      have hsz : E.size = 2 ∨ E.size = 3 ∨ E.size = 4 := by omega
      unfold lettersS
      rcases hsz with hs | hs | hs
      · skip
        have hxS : ∀ W, (Instr.index 9 (.string ⟨#[87, 85, 66, 82, 71]⟩) (.int .i64 1)).run Tryd.prog W = .ok (.int .u8 85) W := fun W => by kernel_rfl
        have hxE : ∀ W, (Instr.index 9 (.string E) (.int .i64 1)).run Tryd.prog W = .ok (.int .u8 y) W := fun W => HEx.out W 1 (by omega)
        have hcut : ∀ W, (Instr.slice 9 (.string ⟨#[87, 85, 66, 82, 71]⟩) (some (.int .i64 2)) none none).run Tryd.prog W = .ok (.string ⟨#[66, 82, 71]⟩) W := fun W => by kernel_rfl
        have hs1 : IntKind.i64.wrap ((1 : Int) + 1) = 2 := by kernel_rfl
        have hs2 : IntKind.i64.wrap (2 : Int) = 2 := by kernel_rfl
        have hne : ((85 : Int) != y) = true := by simp; omega
        have hno : ∀ W, Calls Tryd.prog 37 #[.string ⟨#[66, 82, 71]⟩, .int .u8 y] W fun e w' => e = .returned (.int .i64 (-1)) ∧ w' = W := fun W =>
          (Tryd.strings_IndexByte ⟨#[66, 82, 71]⟩ y W).mono fun _ _ ⟨h1, h2⟩ => ⟨by rw [h1, byte_none (by decide) y0 y1], h2⟩
        go_enter Tryd.func30, Tryd.ntmps30
        go_wp2_with fail
        refine (hV _).mono ?_
        rintro e w' ⟨rfl, rfl⟩
        go_wp2_with fail
        go_step3
        go_wp2_with fail
        go_loopw [9] (fun i wr => i = .int .i64 1 ∧ wr = w') (fun _ _ => 0)
        case atStart => exact ⟨rfl, rfl⟩
        case round =>
          obtain ⟨rfl, rfl⟩ := hrel
          go_wp2_with fail
          go_step3
          go_wp2_with fail
          go_quiet (fail)
          go_wp2_with fail
          go_quiet ((go_at_call 37; exact quietLA (hno _)))
          go_wp2_with fail
          simp (zetaDelta := true) only [Exit.noGoto, Exit.inBlock, Exit.then]
          go_ret
          exact ⟨rfl, below_drewN (Below.refl _ _) _⟩
      · skip
        have hxS : ∀ W, (Instr.index 9 (.string ⟨#[87, 85, 66, 82, 71]⟩) (.int .i64 2)).run Tryd.prog W = .ok (.int .u8 66) W := fun W => by kernel_rfl
        have hxE : ∀ W, (Instr.index 9 (.string E) (.int .i64 2)).run Tryd.prog W = .ok (.int .u8 y) W := fun W => HEx.out W 2 (by omega)
        have hcut : ∀ W, (Instr.slice 9 (.string ⟨#[87, 85, 66, 82, 71]⟩) (some (.int .i64 3)) none none).run Tryd.prog W = .ok (.string ⟨#[82, 71]⟩) W := fun W => by kernel_rfl
        have hs1 : IntKind.i64.wrap ((2 : Int) + 1) = 3 := by kernel_rfl
        have hs2 : IntKind.i64.wrap (3 : Int) = 3 := by kernel_rfl
        have hne : ((66 : Int) != y) = true := by simp; omega
        have hno : ∀ W, Calls Tryd.prog 37 #[.string ⟨#[82, 71]⟩, .int .u8 y] W fun e w' => e = .returned (.int .i64 (-1)) ∧ w' = W := fun W =>
          (Tryd.strings_IndexByte ⟨#[82, 71]⟩ y W).mono fun _ _ ⟨h1, h2⟩ => ⟨by rw [h1, byte_none (by decide) y0 y1], h2⟩
        go_enter Tryd.func30, Tryd.ntmps30
        go_wp2_with fail
        refine (hV _).mono ?_
        rintro e w' ⟨rfl, rfl⟩
        go_wp2_with fail
        go_step3
        go_wp2_with fail
        go_loopw [9] (fun i wr => i = .int .i64 2 ∧ wr = w') (fun _ _ => 0)
        case atStart => exact ⟨rfl, rfl⟩
        case round =>
          obtain ⟨rfl, rfl⟩ := hrel
          go_wp2_with fail
          go_step3
          go_wp2_with fail
          go_quiet (fail)
          go_wp2_with fail
          go_quiet ((go_at_call 37; exact quietLA (hno _)))
          go_wp2_with fail
          simp (zetaDelta := true) only [Exit.noGoto, Exit.inBlock, Exit.then]
          go_ret
          exact ⟨rfl, below_drewN (Below.refl _ _) _⟩
      · skip
        have hxS : ∀ W, (Instr.index 9 (.string ⟨#[87, 85, 66, 82, 71]⟩) (.int .i64 3)).run Tryd.prog W = .ok (.int .u8 82) W := fun W => by kernel_rfl
        have hxE : ∀ W, (Instr.index 9 (.string E) (.int .i64 3)).run Tryd.prog W = .ok (.int .u8 y) W := fun W => HEx.out W 3 (by omega)
        have hcut : ∀ W, (Instr.slice 9 (.string ⟨#[87, 85, 66, 82, 71]⟩) (some (.int .i64 4)) none none).run Tryd.prog W = .ok (.string ⟨#[71]⟩) W := fun W => by kernel_rfl
        have hs1 : IntKind.i64.wrap ((3 : Int) + 1) = 4 := by kernel_rfl
        have hs2 : IntKind.i64.wrap (4 : Int) = 4 := by kernel_rfl
        have hne : ((82 : Int) != y) = true := by simp; omega
        have hno : ∀ W, Calls Tryd.prog 37 #[.string ⟨#[71]⟩, .int .u8 y] W fun e w' => e = .returned (.int .i64 (-1)) ∧ w' = W := fun W =>
          (Tryd.strings_IndexByte ⟨#[71]⟩ y W).mono fun _ _ ⟨h1, h2⟩ => ⟨by rw [h1, byte_none (by decide) y0 y1], h2⟩
        go_enter Tryd.func30, Tryd.ntmps30
        go_wp2_with fail
        refine (hV _).mono ?_
        rintro e w' ⟨rfl, rfl⟩
        go_wp2_with fail
        go_step3
        go_wp2_with fail
        go_loopw [9] (fun i wr => i = .int .i64 3 ∧ wr = w') (fun _ _ => 0)
        case atStart => exact ⟨rfl, rfl⟩
        case round =>
          obtain ⟨rfl, rfl⟩ := hrel
          go_wp2_with fail
          go_step3
          go_wp2_with fail
          go_quiet (fail)
          go_wp2_with fail
          go_quiet ((go_at_call 37; exact quietLA (hno _)))
          go_wp2_with fail
          simp (zetaDelta := true) only [Exit.noGoto, Exit.inBlock, Exit.then]
          go_ret
          exact ⟨rfl, below_drewN (Below.refl _ _) _⟩
end Go.Proofs.YtammchaihangnaaDoor
